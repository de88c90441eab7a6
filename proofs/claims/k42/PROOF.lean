import PyProof.Rows.All
import Wide.All
import OpenK.AllK
import Wide.FinOn
import Lean
import PyProof.EqAt
import PyProof.EqKinds
import PyProof.TupleCall
import KE.KDictOf
import PyProof.AttrMissSeq
import PyProof.DictCopy
import PyProof.NeKinds
import PyProof.DictWalks
import PyProof.MinMaxWalk
import PyProof.MeetsDictList
import PyProof.DictFindH
import PyProof.DictTruth
import KE.KRevSl
import PyProof.DictItems
import KE.KDictSum
import PyProof.Rows.SortStr
import PyProof.Rows.SortWalk
import PyProof.ExcArgsOwn
import PyProof.NsDelKeeps
import PyProof.EnumMake
import PyProof.EnumFor
import PyProof.EnumStmt
import PyProof.Rows.EnumRows
import PyProof.Rows.SortRev
import KE.KSortTup
import KE.KTab
import PyProof.Rows.SortShell
import PySem.Challenge.RW_momentloom_k42_keepers_used
local macro_rules
| `({$x:term,*})=>`(⟨$x,*⟩)
open PySem renaming Addr->aa,Value->af,Shared->ak,wpAny_bind->ax,sizeLine->aB,Program->aN,Paired->aP,wpAny->aX,model->bf,mainGlobals->bJ,wpAny_pure->bK,World->bL,FuncData->bR,Around->bZ,starEach->cu,Heap->cz,boot_len->cA,Expr->cN,Stmt->cT,compareOp->cU,wpAny_loadPart'->dy,wpAny_mono->eu,cLine->eK,bootBuiltins->eQ,wpAny_holding->e7,sysModules->ff,eval->fg,mem_of_lookup->gy,wpAny_Call_Name_kw->gQ,Builtin->iB,binaryOp->iE,keywordEach->iM,backTo->iN,wpAny_passesOwn->iT,behindInMarks->i5,ExceptHandler->jM,wpAny_truthy_bool->kJ,codeAny_mono->kK,NameKind->kL,richCompare_meets_room->kM,assignEach->lE,getMethod->lG,wpAny_forIn_list->lL,attributeBase->me,Scope->mh,sizeLine_eq->mi,backToKw->mj,sliceBounds->mw,wpAny_execs_nil->m7,call_meets->oS,tupleKind_room_in1->oU,holding->pZ,foldedSetIterable->p0,codeAny->p4,richCompare->p5,valueAt->p6,wpAny_dictEntries->p7,wpAny_newList->qA,wpAny_call_entry->rE,letOwnedTupleGo->r9,codeAny_builtin->sj,rawInt->tS,unbindBehindTheSuite->uc,standAt->uC,swapsWith->uD,BindsTo->uH,wpAny_call->wj,stored->wz,call->xu,callWith->xx,callerA->xI,wpAny_pyIter_slot->xO,tupleKind->yI,assign->yL,subscripted->zT,wpAny_field->zU,Within->z8,leaving->A1,getItem->A2,wpAny_richCompare_same_room->A5,bindArgs->Bn,wpAny_newFunctionEnv_cells->Br,atKey->By,wpAny_setField->BA,wpAny_rule->BC,evalArgs_none->Co,wpAny_standAt->Ee,call->Ez,bindL->Fd,bindC->Fe,cellsFrom->Ff,wpAny_Call_method0_late->Fh,noteFrame->Fj,isTrue->Fp,wpAny_pyNext_list_item->Fu,seqIndex_neg->FK,call_meetsIn->F4,wpAny_isTrue_Compare1->IQ,wpAny_pyNext_list_end->IR,codeAny_call_function->IS,codeAny_handlers_test->IU,Model->Jb,CmpOp->Jd,Operator->Jf,rule->Jg,seqIndex_of->Jr,KeyKind->Ld,wpAny_handleBy_cons->Lp,builtinsNs->MU,wpAny_Name->MX,Result->Nb,typeLookup->Nd,checkCount->NB,wpAny_assign_Name->OV,wpAny_pyIter_list->OW,Keyword->OX,slot_list_getitem->OZ,wpAny_newObj_type->O3
open PySem.W renaming Frag->ae,findIn->aU,nsIn->cj,exmOne->cm,mg_of->cM,excIn->cP,mg_none_of->cR,kia_one->eT,emptyDict->fh,fnOf->fi,keepIn->gF,kitOne->gG,instObj->gK,methodCall_KW->iG,callWith_K->jq,codeIn->jz,looks_findIn->j8,katRev->lP,plainGet->nJ,isFn->oO,cellsFrom_some->oQ,hideAll->pH,exm_one->pK,lookIn->qg,plainGet_of->rC,methodObj->sy,hasDictIn->sJ,takerIn->uW,makesIn->uX,OpenLaw->vd,InstAt->vZ,mroIn->xy,hideAll_get->AY,callWith_K0->A0,of_hideAll->A9,codeRec_of->Bq,plainOver->Cg,specialIn->Cj,kitx_list->Ck,kitx_dict->Cm,handedIn->El,takesIn->Fb,typeIn->FF,notCls->Gn,Looks->IV,WalkO->IW,kas_rev->O7
open List renaming mem_cons_of_mem->ah,length_map->ao,mem_cons->ar,length_append->aA,mem_cons_self->aC,mem_singleton->aE,getElem?_eq_some_iff->aG,size_toArray->aH,getElem?_eq_getElem->aI,not_mem_nil->aK,length_cons->aT,mem_append_right->bj,lookup_cons_self->bQ,map_append->bT,mem_append->bY,map_cons->b9,mem_of_getElem?->cq,append_nil->cv,length_nil->cw,mem_map->cB,getElem?_map->cC,replicate->cD,lookup_cons->cE,nodup_cons->cG,length_take->c9,getElem?_append_right->df,pairwise_iff_getElem->dC,getElem?_of_mem->dH,map_map->dI,getD_eq_getElem?_getD->dU,take_length->dZ,dropLast_subset->eC,getElem?_append_left->eO,take_add_one->eR,zip_cons_cons->eZ,getElem?_set_self->fJ,range->gx,map_congr_left->gC,pairwise_cons->gI,getElem?_eq_none->gJ,mem_append_left->gU,nodup_append->gX,pairwise_append->gY,pairwise_singleton->ib,nodup_nil->ic,filter_cons_of_pos->ie,filter_cons_of_neg->ig,pairwise_map->iQ,getElem?_set_ne->i0,getLast?_concat->i9,length_drop->je,getElem_map->jf,length_reverse->jj,mem_map_of_mem->jk,find?_cons->jw,length->jy,append_assoc->jP,take_zero->jQ,length_replicate->j9,contains_iff_mem->kA,length_filter_le->kC,getElem_mem->kH,any_cons->kN,lookup->kP,length_dropLast->kQ,nil_append->lC,filter_append->mY,take_sublist->nU,getElem?_replicate->pJ,of_mem_zip->qh,length_zip->qJ,take_append_drop->rg,dropLast_concat->rN,mem_of_mem_drop->rP,filterMap_cons->rZ,mem_filterMap->tL,zip_nil_right->tM,zip_nil_left->uI,map_nil->uJ,toArray->uP,reverse_perm->uQ,foldl_append->uR,eraseIdxIfInBounds_toArray->uZ,map_reverse->vG,perm_middle->vJ,eq_nil_of_length_eq_zero->xb,mem_filter->xp,foldl_cons->xq,mem_range->xU,drop_zero->yf,getElem?_zip_eq_some->zc,drop_eq_getElem_cons->zq,getLast?_eq_none_iff->zz,getElem?_take_of_lt->zS,map_take->zZ,take_of_length_le->A6,length_singleton->Bx,mem_of_mem_take->Dj,length_pos_iff->EY,filter_sublist->E3,getElem?_drop->Fk,reverse_cons->FP,ext_getElem?->Gj,any_eq_true->IT,drop_length->IX,cons_append->IY,isEmpty_iff->I9,length_set->Jt,filter_nil->KZ,range_succ->K3,all_cons->Ni
open Nat renaming le_refl->aD,ne_of_lt->aR,lt_of_lt_of_le->bD,zero_le->bU,le_trans->dA,le_succ->gp,not_lt_zero->gW,lt_irrefl->g9,lt_succ_of_lt->iS,lt_of_le_of_lt->jA,le_of_lt->jR,mul_le_mul_right->lr,succ_pos->mE,sub_self->mH,ne_of_gt->qe,lt_trans->qq,lt_of_succ_lt_succ->qy,lt_or_ge->ve,mul_comm->vj,lt_succ_self->wg,le_add_right->wO,le_of_eq->Bi,succ_mul->B7,add_le_add_left->Fi,add_sub_cancel->Gh,lt_or_gt_of_ne->Gw
open PySem.Heap renaming get?_push_of_some->aJ,lt_size->aQ,get?_push_size->cy,get?_update_other->fV,get?_push_ne->gs,size_update->gH,get?_update_self->qZ,size_push->rJ,SameBut->uB,get?_update_ne->EH,MadeExcOf->Lo
open Bool renaming false_ne_true->aW,and_eq_true->kF,eq_iff_iff->qf,and_eq_true_iff->rL,false_eq_true->tP,noConfusion->vw,true_and->Nr
open PySem.Paired renaming length->aZ,snoc->eP
open PySem.F renaming plainAttrs_list->bV,slot_list_append->cY,type_list_append->cZ,args_tuple_add_2->xC,entry_tuple_add->ya,args_tuple_gt_2->yh,slot_dict_items->yj,slot_list_clear->yG,type_list_clear->yH,slot_tuple_add->yQ,entry_tuple_gt->zg,slot_tuple_gt->zV,slot_list_pop->zX,type_list_pop->zY
open False renaming elim->cI
open PySem.PassesOwn renaming never->cO
open PySem.Builtin.Range renaming rangeSize->c5,small->pF
open PySem.Obj renaming mapSeq->dh,mapFields->tN,data_mapFields->t7,isFreed_of_fields->Cs
open Option.some renaming inj->dM
open PyProof.Rows renaming IntsAre->dN,seqObj->dQ,callWith_type1->gk,AllBare->pY,IsTup->rY,envOfC->tZ,listUpdate_at->vE,size_push'->wJ,seqEpoch_at->zW,entry_list_sort->Av,tuples'->A7,slot_list_sort->BJ,Constant_none->Ec,subscriptTail->Ep,sortedAll->Fn,floordiv_int->Fz,subscriptTail_builtinR->FL,call_function_entry_kw->Gr,plain_sorted->Gs,entry_sorted->Gu,kind_sorted->JN,wpAny_call_entry_kw->Lx,Subscript_->Nf,args_list_sort_rev->NC
open PySem.Builtin.Int renaming intBits->fc
open Array renaming length_toList->fK,perm_iff_toList_perm->iX,getElem?_toList->jX,getElem?_eq_some_iff->mB,getD->pV,toList->MZ
open Ne renaming symm->gj
open Option renaming map_eq_some_iff->iq,isSome_map->m9,getD_none->Fg,map_some->GK
open List.Perm renaming refl->iK
open PySem.AutoSeq1 renaming sub_tuple_tuple->jd,list_insert_list_int_val_1->O5
open PySem.Builtin.Tuple renaming tupleCompareSizes->jr
open Int renaming emod_lt_of_pos->jF,emod_nonneg->lX,toNat_natCast->uY,le_refl->xr,fdiv_eq_ediv_of_nonneg->yN
open PySem.Builtin.List renaming listTooLong->lu,listFitsIndex->tO
open PySem.W.WData renaming weight->lO,weightAll->wG
open PySem.Str renaming ofString->mC
open Sum.inr renaming inj->mI
open PySem.Calls renaming callWith_builtin->pT,Name_function_global->xt,evalArgs_plain->Bv,spliced_cons->Eo,spliced_nil->Fc
open PySem.SeqAt.EqAt renaming int_int->qY,int_str->zP,str_int->zQ,same->Bt
open Function renaming comp->rF
open PySem.Builtin.Dict renaming dictSlotArgs->t9,updateFrom->vc,pairItems->vx,samePairs->vz
open Classical renaming byContradiction->vC
open List.cons renaming inj->w6
open PySem.SeqAt renaming EqAt->xA
open PyProof renaming noPylong_of_log2->xM,noPylong_small->yO
open And renaming imp->yw
open PySem.EntryCells renaming newEntry->yY
open PySem.W.Looks renaming ld->y8
open PySem.Around renaming under->zR,under_plainId->A4
open PySem.Code renaming isFrame->AZ,quiet_builtin->Fl
open PySem.Heap.DictOf renaming new->A3
open PySem.Value renaming isInt->A8,isInt_shape->E9,isStrOf->Lc
open Nat.succ renaming inj->IZ
open PySem.IsRange renaming new->Lh
open Std.Legacy.Range renaming forIn_eq_forIn_range'->Lr,size->Ls
open PySem.Challenge renaming rw_momentloom_k42_keepers_used->OU
open PySem.Heap.IsSliceOf renaming new->OY
open PySem.W.WShape renaming has->O0
open PySem.Heap.UpToSlots renaming of_keeps->O4
open PyProof.Rows.SortSt renaming mk'->O6
-- CHANGE: your row's module here, as the last of these rows
set_option Elab.async false
set_option linter.all false
set_option maxRecDepth 100000
namespace L2
open PySem PySem.Spec PyProof.Rows
abbrev Key:=Sum Int Str
def xT:Key->af->Bool
 |.inl k,v=>A8 k v
 |.inr x,v=>Lc x v
def keyH(w:bL):Key->Int
 |.inl k=>hashInt k
 |.inr x=>hashStr w x
theorem gB:∀{k:Key} {v:af},xT k v=true->(∃i t,k=Sum.inl i/\v=Value.int i t)\/(∃x t,k=Sum.inr x/\v=Value.str x t)
 |.inl i,v,h=>by
  obtain⟨t,e⟩:=E9 (k:=i) (v:=v) h;exact .inl ⟨i,t,rfl,e⟩
 |.inr x,v,h=>by
  obtain⟨t,e⟩:=Value.isStrOf_shape (x:=x) (v:=v) h;exact .inr ⟨x,t,rfl,e⟩
theorem D0(i:Int)(t:Tok):xT (.inl i) (.int i t)=true:=by simp[xT,A8]
theorem Ea(x:Str)(t:Tok):xT (.inr x) (.str x t)=true:=by simp[xT,Lc]
theorem MK(a b:Int):decide ((Sum.inl a:Key)=Sum.inl b)=(a==b):=by
 by_cases e:a=b
 ·subst e;simp
 ·have h:¬(Sum.inl a:Key)=Sum.inl b:=fun q=>e (Sum.inl.inj q);rw[decide_eq_false h];exact (beq_eq_false_iff_ne.mpr e).symm
theorem ML(a b:Str):decide ((Sum.inr a:Key)=Sum.inr b)=decide (a=b):=by
 by_cases e:a=b
 ·subst e;simp
 ·have h:¬(Sum.inr a:Key)=Sum.inr b:=fun q=>e (mI q);rw[decide_eq_false h,decide_eq_false e]
theorem MP(a:Int)(b:Str):decide ((Sum.inl a:Key)=Sum.inr b)=false:=decide_eq_false (fun q=>nomatch q)
theorem MT(a:Str)(b:Int):decide ((Sum.inr a:Key)=Sum.inl b)=false:=decide_eq_false (fun q=>nomatch q)
def eY(prog:aN)(w:bL):Ld prog w Key where
 is:=xT
 hash:=keyH w
 inj:=fun v a b ha hb=>by
  rcases gB ha with⟨i,t,rfl,rfl⟩|⟨x,t,rfl,rfl⟩
  ·rcases gB hb with⟨j,u,rfl,e⟩|⟨y,u,rfl,e⟩
   ·injection e with e1 _;rw[e1]
   ·exact nomatch e
  ·rcases gB hb with⟨j,u,rfl,e⟩|⟨y,u,rfl,e⟩
   ·exact nomatch e
   ·injection e with e1 _;rw[e1]
 byValue:=fun k v h=>by
  rcases gB h with⟨i,t,rfl,rfl⟩|⟨x,t,rfl,rfl⟩<;>rfl
 pyHash:=fun hv h=>by
  rcases gB hv with⟨i,t,rfl,rfl⟩|⟨x,t,rfl,rfl⟩
  ·exact wpAny_pyHash_int h
  ·exact wpAny_pyHash_str h
 eqBool:=fun hu hv h=>by
  rcases gB hu with⟨i,t,rfl,rfl⟩|⟨x,t,rfl,rfl⟩
  ·rcases gB hv with⟨j,u,rfl,rfl⟩|⟨y,u,rfl,rfl⟩
   ·rw[MK]at h;exact wpAny_eqBool_int h
   ·rw[MP]at h;exact zP i t y u _ _ _ _ h
  ·rcases gB hv with⟨j,u,rfl,rfl⟩|⟨y,u,rfl,rfl⟩
   ·rw[MT]at h;exact zQ x t j u _ _ _ _ h
   ·rw[ML]at h;exact wpAny_eqBool_str h
 «strs»:=fun k x t v h=>by
  rcases gB h with⟨i,u,rfl,e⟩|⟨y,u,rfl,e⟩
  ·exact nomatch e
  ·injection e with e1 _;subst e1
   cases v<;>rfl
theorem z5(prog:aN)(w:bL)(i:Int)(t:Tok):(eY prog w).is (.inl i) (.int i t)=true:=D0 i t
theorem z7(prog:aN)(w:bL)(x:Str)(t:Tok):(eY prog w).is (.inr x) (.str x t)=true:=Ea x t
inductive V where
 |non|bl (b:Bool)|int (i:Int)|str (x:Str)|byt (b:Array UInt8)|flt (b:UInt64)|ref (a:aa)|ty (n:String)
 deriving DecidableEq
def RelV:V->af->Prop
 |.non,u=>u=Value.none
 |.bl b,u=>u=Value.bool b
 |.int i,u=>∃t,u=Value.int i t
 |.str x,u=>∃t,u=Value.str x t
 |.byt b,u=>∃t,u=Value.bytes b t
 |.flt b,u=>∃t,u=Value.float b t
 |.ref a,u=>u=Value.ref a
 |.ty n,u=>u=Value.type n
abbrev cX:List V->List af->Prop:=aP RelV
theorem cX.length{xs:List V}{us:List af}(r:cX xs us):xs.length=us.length:=aZ r
theorem cX.get:∀{xs:List V} {us:List af} {i:Nat} {x:V},cX xs us->xs[i]?=some x->∃u,us[i]?=some u/\RelV x u
 |_,_,_,_,.nil,e=>by simp at e
 |_,_,0,_,.cons r _,e=>by simp at e;subst e;exact{_,rfl,r}
 |_,_,i+1,x,.cons _ t,e=>by
  obtain⟨u,h1,h2⟩:=cX.get (i:=i) (x:=x) t (by simpa using e);exact{u,by simpa using h1,h2}
theorem cX.set{x:V}{u:af}(r:RelV x u):∀{xs:List V} {us:List af} (i:Nat),cX xs us->cX (xs.set i x) (us.set i u)
 |_,_,_,.nil=>.nil
 |_,_,0,.cons _ t=>.cons r t
 |_,_,i+1,.cons q t=>.cons q (cX.set r i t)
theorem cX.append:∀{xs ys:List V} {us Z:List af},cX xs us->cX ys Z->cX (xs++ys) (us++Z)
 |_,_,_,_,.nil,s=>s
 |_,_,_,_,.cons r t,s=>.cons r (cX.append t s)
theorem cX.take:∀{xs:List V} {us:List af} (n:Nat),cX xs us->cX (xs.take n) (us.take n)
 |_,_,0,_=>.nil
 |_,_,_+1,.nil=>.nil
 |_,_,n+1,.cons r t=>.cons r (cX.take n t)
theorem cX.drop:∀{xs:List V} {us:List af} (n:Nat),cX xs us->cX (xs.drop n) (us.drop n)
 |_,_,0,r=>r
 |_,_,_+1,.nil=>.nil
 |_,_,n+1,.cons _ t=>cX.drop n t
def rB:Option V->Option af->Prop
 |some v,some u=>RelV v u
 |none,none=>True
 |_,_=>False
def KV{κ:Type}:List (κ×V)->List (κ×af)->Prop:=aP fun (p:κ×V) (q:κ×af)=>p.1=q.1/\RelV p.2 q.2
def kV:Key->V
 |.inl i=>.int i
 |.inr x=>.str x
inductive HO where
 /-- a list -/
 |lst(xs:List V)
 /-- a tuple (never changes) -/
 |tup(xs:List V)
 /-- a dict whose keys are ints and texts; one whose keys are tuples of ints and texts (the empty one is both) -/
 |dK(kvs:List (Key×V))|dT (kvs:List (List Key×V))
 /-- a set of ints: its members, its size -/
 |set(S:Int->Bool)(n:Nat)
 /-- an instance of the class at C, its dict at dx, its attributes -/
 |ins(C dx:aa)(fs:List (Str×V))
 /-- the dict of the instance at x -/
 |own(x:aa)
 /-- the dict of an exception -/
 |xd(fs:List (Str×V))
 /-- a bound method, f of x -/
 |met(f x:aa)
 /-- a range object lo, lo + 1, .. below hi -/
 |rng(lo hi:Int)
 /-- a thing that is known to the object (the script; a dict while a loop walks it): read, never written while it is so -/
 |frz(o:Obj)(u:HO)
 /-- a code object's table -/
 |tbl(ps:Array af)
 /-- any other thing, by what is true of its one object (a def of one's own: SetO a S n := HO.ext fun h => ..) -/
 |ext(φ:cz->Prop)
abbrev Hp:=aa->Option HO
def upd(H:Hp)(a:aa)(o:HO):Hp:=fun b=>if b=a then some o else H b
theorem ag{H:Hp}{a:aa}{o:HO}:upd H a o a=some o:=by unfold upd;rw[if_pos rfl]
theorem aO{H:Hp}{a b:aa}{o:HO}(h:b≠a):upd H a o b=H b:=by unfold upd;rw[if_neg h]
theorem Ca{H:Hp}{a:aa}{o u:HO}:upd (upd H a o) a u=upd H a u:=by
 funext b;unfold upd;split<;>rfl
theorem pG{H:Hp}{a b:aa}{o u:HO}(h:H a=some o)(h':H b=some u)(d:o≠u):a≠b:=by
 intro e;subst e;rw[h]at h';exact d (dM h')
theorem av{H:Hp}{a b:aa}{o:HO}(h:H a=some o)(h':H b=none):a≠b:=by
 intro e;subst e;rw[h]at h';cases h'
section
variable(P:aN)(w:bL)
def eE(H:Hp)(h:cz)(a:aa):HO->Prop
 |.lst xs=>xs.length<=aB/\∃(Z:List af) (n:Nat),cX xs Z/\h.get? a=some {cls:=.type "list",data:=.seq Z.toArray n}
 |.tup xs=>xs.length<=aB/\∃Z:List af,cX xs Z/\rY h a Z.toArray
 |.dK kvs=>kvs.length<=aB/\(a==ff)=false/\∃vs,KV kvs vs/\h.DictOf (eY P w) a vs
 |.dT kvs=>kvs.length<=aB/\(a==ff)=false/\∃xs:List (List Key×aa×af),
   aP (fun (p:List Key×V) (q:List Key×aa×af)=>p.1=q.1/\H q.2.1=some (.tup (p.1.map kV))/\RelV p.2 q.2.2) kvs xs /\
   ∃o es ep,h.get? a=some o/\o.ExactDict/\o.data=.dict es ep/\es.toList=xs.map (entryOfKey (yI (eY P w)))/\(xs.map (·.1)).Nodup
 |.set S n=>h.SetOf (intKind P w) a S n
 |.ins C dx fs=>H dx=some (.own a)/\fs.length<=1000/\dx≠a/\h.get? a=some (gK C dx) /\
   ∃mA,h.Ns1 dx mA/\(∀f,rB (fs.lookup f) (mA f))/\z8 mA (fs.map (·.1))
 |.own _=>∃o,h.get? a=some o
 |.xd fs=>∃mA,h.Ns1 a mA/\∀f,rB (fs.lookup f) (mA f)
 |.rng lo hi=>∃t u v,h.get? a=some {cls:=.type "range",data:=.fields #[.int lo t,.int hi u,.int 1 v]}
 |.frz o u=>h.get? a=some o/\eE H h a u
 |.tbl ps=>h.get? a=some {cls:=.none,data:=.fields ps}
 |.met f x=>h.get? a=some (sy (.ref f) (.ref x))
 |.ext φ=>φ h/\(∃o,h.get? a=some o)/\∀h1 h2:cz,φ h1->(∀o,h1.get? a=some o->h2.get? a=some o)->φ h2
def HOk(H:Hp)(h:cz):Prop:=∀a o,H a=some o->eE P w H h a o
end
section
variable{P:aN}{w:bL}{H H':Hp}{h h':cz}{a:aa}{o:HO}
theorem eE.lt(x:eE P w H h a o):a<h.objs.size:=by
 cases o with
 |lst xs=>obtain⟨_,_,_,_,e⟩:=x;exact aQ e
 |tup xs=>obtain⟨_,_,_,p⟩:=x;exact p.lt
 |dK kvs=>obtain⟨_,_,_,_,o,_,_,e,_⟩:=x;exact aQ e
 |dT kvs=>obtain⟨_,_,_,_,o,_,_,e,_⟩:=x;exact aQ e
 |set S n=>obtain⟨o,_,_,_,e,_⟩:=x;exact aQ e
 |ins C dx fs=>obtain⟨_,_,_,e,_⟩:=x;exact aQ e
 |own y=>obtain⟨_,e⟩:=x;exact aQ e
 |xd fs=>obtain⟨_,⟨_,_,_,e,_⟩,_⟩:=x;exact aQ e
 |rng lo hi=>obtain⟨_,_,_,e⟩:=x;exact aQ e
 |frz ob u=>obtain⟨e,_⟩:=x;exact aQ e
 |tbl ps=>exact aQ (show h.get? a=some _ from x)
 |met f y=>exact aQ (show h.get? a=some _ from x)
 |ext φ=>obtain⟨_,⟨_,e⟩,_⟩:=x;exact aQ e
theorem Paired.mapP{W V:Type}{F G:W->V->Prop}:∀{Y:List W} {Z:List V},aP F Y Z->(∀a b,F a b->G a b)->aP G Y Z
 |_,_,.nil,_=>.nil
 |_,_,.cons r t,f=>.cons (f _ _ r) (Paired.mapP t f)
theorem Paired.imp'{W V:Type}{F G:W->V->Prop}(f:∀a b,F a b->G a b){Y:List W}{Z:List V}(r:aP F Y Z):aP G Y Z:=Paired.mapP r f
theorem eE.stay(x:eE P w H h a o)(k:∀b u,(b=a\/H b=some (.own a))->h.get? b=some u->h'.get? b=some u)
  (ho:∀b,H b=some (.own a)->H' b=some (.own a)) (ht:∀b xs,H b=some (.tup xs)->H' b=some (.tup xs)):eE P w H' h' a o:=by
 induction o with
 |lst xs=>obtain⟨z,Z,n,r,e⟩:=x;exact{z,Z,n,r,k _ _ (.inl rfl) e}
 |tup xs=>obtain⟨z,Z,r,ob,e,c⟩:=x;exact{z,Z,r,ob,k _ _ (.inl rfl) e,c}
 |dK kvs=>obtain⟨z,y,vs,r,ob,es,ep,e,c⟩:=x;exact{z,y,vs,r,ob,es,ep,k _ _ (.inl rfl) e,c}
 |dT kvs=>
  obtain⟨z,y,xs,r,ob,es,ep,e,c⟩:=x;exact{z,y,xs,Paired.mapP r fun p q z=>{z.1,ht _ _ z.2.1,z.2.2},ob,es,ep,k _ _ (.inl rfl) e,c}
 |set S n=>obtain⟨ob,es,ep,t,e,c⟩:=x;exact{ob,es,ep,t,k _ _ (.inl rfl) e,c}
 |ins C dx fs=>
  obtain⟨d,z,ne,e,mA,⟨od,es,ep,W,c⟩,r⟩:=x;exact{ho _ d,z,ne,k _ _ (.inl rfl) e,mA,{od,es,ep,k _ _ (.inr d) W,c},r}
 |own y=>obtain⟨ob,e⟩:=x;exact{ob,k _ _ (.inl rfl) e}
 |xd fs=>obtain⟨mA,⟨od,es,ep,e,c⟩,r⟩:=x;exact{mA,{od,es,ep,k _ _ (.inl rfl) e,c},r}
 |rng lo hi=>obtain⟨t,u,v,e⟩:=x;exact{t,u,v,k _ _ (.inl rfl) e}
 |frz ob u Y=>obtain⟨e,q⟩:=x;exact{k _ _ (.inl rfl) e,Y q}
 |tbl ps=>
  have e:h.get? a=some {cls:=.none,data:=.fields ps}:=x;show h'.get? a=some {cls:=.none,data:=.fields ps};exact k a _ (.inl rfl) e
 |met f y=>
  have e:h.get? a=some (sy (.ref f) (.ref y)):=x;show h'.get? a=some (sy (.ref f) (.ref y));exact k a _ (.inl rfl) e
 |ext φ=>obtain⟨p,⟨o,e⟩,st⟩:=x;exact{st _ _ p fun o q=>k _ _ (.inl rfl) q,{o,k _ _ (.inl rfl) e},st}
theorem HOk.lt(x:HOk P w H h)(e:H a=some o):a<h.objs.size:=(x a o e).lt
theorem HOk.fresh(x:HOk P w H h)(e:h.objs.size<=a):H a=none:=by
 cases q:H a with
 |none=>rfl
 |some u=>exact absurd (bD (x.lt q) e) (g9 _)
theorem HOk.kept(x:HOk P w H h)(k:∀b u,h.get? b=some u->h'.get? b=some u):HOk P w H h':=fun a o e=>
 (x a o e).stay (fun b u _ q=>k b u q) (fun _ q=>q) fun _ _ q=>q
theorem HOk.laid(x:HOk P w H h)(k:∀b u,h.get? b=some u->h'.get? b=some u)(hp:h.objs.size<=a)(new:eE P w (upd H a o) h' a o):HOk P w (upd H a o) h':=fun b u e=>by
 have Z:=x.fresh hp
 by_cases hb:b=a
 ·subst hb;rw[ag]at e;cases e;exact new
 ·rw[aO hb]at e;exact (x b u e).stay (fun c v _ q=>k c v q) (fun c q=>by rw[aO (av q Z)];exact q) fun c xs q=>by rw[aO (av q Z)];exact q
end
def Rd(H:Hp)(a:aa)(u:HO):Prop:=H a=some u\/∃o,H a=some (.frz o u)
theorem Rd.ok{P:aN}{w:bL}{H:Hp}{h:cz}{a:aa}{u:HO}(r:Rd H a u)(x:HOk P w H h):eE P w H h a u:=by
 rcases r with r|⟨o,r⟩
 ·exact x a u r
 ·obtain⟨_,q⟩:=x a _ r;exact q
def Mut:Option HO->Prop
 |some (.lst _)=>True
 |some (.dK _)=>True
 |some (.dT _)=>True
 |some (.set _ _)=>True
 |some (.ins _ _ _)=>True
 |some (.ext _)=>True
 |_=>False
section
variable{P:aN}{w:bL}{H:Hp}{h h':cz}{x e:aa}{o':HO}
theorem HOk.write(ok:HOk P w H h)(V:Mut (H x))(O:e=x\/H e=some (.own x))(k:∀b u,b≠e->h.get? b=some u->h'.get? b=some u)(U:∃u,h'.get? e=some u)
  (new:eE P w (upd H x o') h' x o'):HOk P w (upd H x o') h':=fun b u q=>by
 have Y:∀c y,H c=some (.own y)->c≠x:=fun c y r z=>by subst z;rw[r]at V;exact V
 have W:∀c xs,H c=some (.tup xs)->c≠x:=fun c xs r z=>by subst z;rw[r]at V;exact V
 by_cases hb:b=x
 ·subst hb;rw[ag]at q;cases q;exact new
 ·rw[aO hb]at q
  by_cases Z:b=e
  ·have M:H b=some (.own x):=by
    rcases O with z|z
    ·exact absurd (Z.trans z) hb
    ·rw[Z];exact z
   rw[q]at M;cases M;obtain⟨v,hv⟩:=U;exact{v,by rw[Z];exact hv}
  ·refine (ok b u q).stay (fun c v hc r=>k c v ?_ r) (fun c r=>by rw[aO (Y c b r)];exact r) fun c xs r=>by rw[aO (W c xs r)];exact r
   rcases hc with rfl|hc
   ·exact Z
   ·rintro rfl
    rcases O with z|z
    ·exact Y c b hc z
    ·rw[hc]at z;cases z;exact hb rfl
end
structure Un(fs ex:List aa)(H H':Hp)(h h':cz):Prop where
 keep:∀b o,h.get? b=some o->H b=none->b∉fs->b∉ex->h'.get? b=some o
 slot:∀b o,h.get? b=some o->H b=none->b∈fs->b∉ex->∃sl,h'.get? b=some {o with slots:=sl}
 free:∀b o,h.get? b=some o->H b=none->b∉ex->H' b=none
 there:∀b o,h.get? b=some o->b∉ex->∃o',h'.get? b=some o'
 tups:∀b xs,H b=some (.tup xs)->H' b=some (.tup xs)
 frzs:∀b o u,H b=some (.frz o u)->H' b=some (.frz o u)
 tbls:∀b ps,H b=some (.tbl ps)->∃more,H' b=some (.tbl (ps++more))
section
variable{fs fs' ex ex':List aa}{H H1 H2:Hp}{h h1 h2 h':cz}{a x e:aa}{o:HO}
theorem Un.any(u:Un fs ex H H1 h h1){b:aa}{ob:Obj}(q:h.get? b=some ob)(n:H b=none)(hx:b∉ex):∃sl,h1.get? b=some {ob with slots:=sl}:=by
 by_cases hb:b∈fs
 ·exact u.slot b ob q n hb hx
 ·exact{ob.slots,u.keep b ob q n hb hx}
theorem Un.kept(k:∀b u,h.get? b=some u->h'.get? b=some u):Un fs ex H H h h':=
 {fun b ob q _ _ _=>k b ob q,fun b ob q _ _ _=>{ob.slots,k b ob q},fun _ _ _ n _=>n,fun b ob q _=>{ob,k b ob q},fun _ _ q=>q,fun _ _ _ q=>q,fun _ ps q=>{#[],by rw[q];simp}}
theorem Un.refl:Un fs ex H H h h:=Un.kept fun _ _ q=>q
theorem Un.laid(k:∀b u,h.get? b=some u->h'.get? b=some u)(hp:h.objs.size<=a)(Z:H a=none):Un fs ex H (upd H a o) h h' where
 keep:=fun b u q _ _ _=>k b u q
 slot:=fun b u q _ _ _=>{u.slots,k b u q}
 free:=fun b u q n _=>by rw[aO (aR (bD (aQ q) hp))];exact n
 there:=fun b u q _=>{u,k b u q}
 tups:=fun b xs q=>by rw[aO (av q Z)];exact q
 frzs:=fun b u xs q=>by rw[aO (av q Z)];exact q
 tbls:=fun b ps q=>{#[],by rw[aO (av q Z),q];simp}
theorem Un.write(Y:Mut (H x))(V:e=x\/H e=some (.own x))(k:∀b u,b≠e->h.get? b=some u->h'.get? b=some u)(W:∃u,h'.get? e=some u):Un fs ex H (upd H x o) h h':=by
 have hx:∀b,H b=none->b≠x:=fun b n z=>by subst z;rw[n]at Y;exact Y
 have hb:∀b,H b=none->b≠e:=fun b n z=>by
  subst z
  rcases V with r|r
  ·exact hx b n r
  ·rw[n]at r;cases r
 have hm:∀b u,H b=some u->¬Mut (some u)->b≠x:=fun b u q nm z=>by subst z;rw[q]at Y;exact nm Y
 refine⟨fun b u q n _ _=>k b u (hb b n) q,fun b u q n _ _=>{u.slots,k b u (hb b n) q},fun b u q n _=>by rw[aO (hx b n)];exact n,fun b u q _=>?_,
  fun b xs q=>by rw[aO (hm b _ q fun z=>z)];exact q,fun b u xs q=>by rw[aO (hm b _ q fun z=>z)];exact q,fun b ps q=>{#[],by rw[aO (hm b _ q fun z=>z),q];simp}⟩
 by_cases Z:b=e
 ·subst Z;exact W
 ·exact{u,k b u Z q}
end
def trk(h:cz)(H:Hp):List aa:=(gx h.objs.size).filter fun a=>(H a).isSome
def yJ(h:cz)(H:Hp):cz:=pH h (trk h H)
theorem Eb(h:cz)(H:Hp):(yJ h H).objs.size=h.objs.size:=PySem.W.hideAll_size _ _
theorem Fo{h:cz}{H:Hp}{b:aa}{o:Obj}(e:h.get? b=some o)(n:H b=none):(yJ h H).get? b=some o:=
 AY _ e fun hm=>by
  have q:(H b).isSome=true:=(xp.mp hm).2;rw[n]at q;simp at q
theorem Ja{h:cz}{H:Hp}{b:aa}{o:Obj}(e:(yJ h H).get? b=some o):h.get? b=some o/\H b=none:=by
 have Z:h.get? b=some o:=A9 (trk h H) e;refine{Z,?_}
 cases q:H b with
 |none=>rfl
 |some x=>
  have hm:b∈trk h H:=xp.mpr {xU.mpr (aQ Z),by simp[q]};have z:(yJ h H).get? b=none:=PySem.W.hideAll_none (trk h H) hm;rw[z]at e;cases e
structure Mod(K:ae)(mg:Str->Option af)(base:cz):Prop where
 kin:K.In base
 glob:base.Ns bJ mg
 blt:∃mb,base.Ns MU mb/\∀x:Str,x≠"__name__"->mb x=eQ x
 nolimit:base.NoLimit
structure Cx where
 prog:aN
 w:bL
 K:ae
 mg:Str->Option af
 base:cz
 A:bZ
 N:List Str
 s₀:ak
 H₀:Hp
 env:Env
 outer:List Env
 stack:List Env
 ex:List aa
 fn:Str->Bool
 calm:Bool
 pn:List (aa×Obj)
 xe:af->ak->Prop
def frs(l:List Env):List aa:=l.filterMap (·.frame)
abbrev Cx.fs(X:Cx):List aa:=frs X.outer
def Vis(sc:mh)(x:Str):Prop:=sc.names.lookup x=some .local\/sc.names.lookup x=some .cell\/sc.names.lookup x=some .free
def Loc(sc:mh)(x:Str):Prop:=sc.names.lookup x=some .local\/sc.names.lookup x=some .cell
def Look(env:Env)(h:cz)(m:Str->Option af)(x:Str)(u:af):Prop:=
 (env.kindOf x=some .local/\m x=some u)\/((env.kindOf x=some .cell\/env.kindOf x=some .free)/\∃c,env.cells.lookup x=some c/\h.IsCell c (some u))
structure Cx.Ok(X:Cx):Prop where
 mod:Mod X.K X.mg X.base
 kind:X.env.scope.kind=.function
 glob:X.env.globals=bJ
 blt:X.env.builtins=MU
 above:X.s₀.heap.objs.size<=X.env.locals
 inj:∀x y c,X.env.cells.lookup x=some c->X.env.cells.lookup y=some c->x=y
 has:∀x,(X.env.kindOf x=some .cell\/X.env.kindOf x=some .free)->∃c,X.env.cells.lookup x=some c
 cab:∀x c,X.fn x=true->X.env.cells.lookup x=some c->X.s₀.heap.objs.size<=c
 hd:X.calm=true->X.A.handled=none
 frames:X.A.frames=some X.stack
 stk:X.stack=X.outer\/(X.stack=X.env::X.outer/\X.env.frame=some X.env.locals)
 exf:∀b∈X.ex,b≠X.env.locals/\∀x c,X.env.cells.lookup x=some c->c≠b
 bs:∀b o,X.base.get? b=some o->X.s₀.heap.get? b=some o/\X.H₀ b=none
 bsz:X.base.objs.size<=X.s₀.heap.objs.size
 noex:∀b o,X.base.get? b=some o->b∉X.ex
 exfs:∀b∈X.ex,b∉X.fs
 funs:X.s₀.heap.FunFrames X.base X.outer
 frf:∀b∈X.fs,X.H₀ b=none
structure Inv(X:Cx)(pins:List (aa×Obj))(σ:List (Option V))(H:Hp)(s:ak):Prop where
 ok:X.Ok
 os:s.os=X.s₀.os
 bare:pY s.gens
 base:Un X.fs X.ex X.H₀ H X.s₀.heap s.heap
 loc:∃m,s.heap.Ns X.env.locals m/\∀(i:Nat) (x:Str) (v:V),X.N[i]?=some x->σ[i]?=some (some v)->Vis X.env.scope x->∃u,RelV v u/\Look X.env s.heap m x u
 cell:∀x c,X.env.cells.lookup x=some c->∃v,s.heap.IsCell c v
 free:H X.env.locals=none
 freeC:∀x c,X.env.cells.lookup x=some c->H c=none
 pin:∀p∈X.pn++pins,s.heap.get? p.1=some p.2/\H p.1=none/\p.1≠X.env.locals/\p.1∉X.fs/\∀v,p.2.data≠.cell v
 hok:HOk X.prog X.w H s.heap
 len:σ.length=X.N.length
section
variable{X:Cx}{pins:List (aa×Obj)}{σ:List (Option V)}{H H':Hp}{s:ak}{h':cz}
theorem Cx.Ok.nofr(ok:X.Ok){b:aa}{o:Obj}(e:X.base.get? b=some o):b∉X.fs:=fun hb=>by
 have:=(ok.funs.mem hb).1;rw[e]at this;cases this
theorem Inv.bs(I:Inv X pins σ H s):∀b o,X.base.get? b=some o->s.heap.get? b=some o/\H b=none:=fun b o e=>
 {I.base.keep b o (I.ok.bs b o e).1 (I.ok.bs b o e).2 (I.ok.nofr e) (I.ok.noex b o e),I.base.free b o (I.ok.bs b o e).1 (I.ok.bs b o e).2 (I.ok.noex b o e)}
theorem Inv.bk(I:Inv X pins σ H s):∀b o,X.base.get? b=some o->s.heap.get? b=some o:=fun b o e=>(I.bs b o e).1
theorem Inv.mod(I:Inv X pins σ H s):Mod X.K X.mg X.base:=I.ok.mod
theorem Inv.kIn(I:Inv X pins σ H s):X.K.In s.heap:=I.ok.mod.kin.keeps I.bk
theorem Inv.fr(I:Inv X pins σ H s):∃m,Fr X.base X.env.locals s.heap m:=
 let ⟨m,Z,_⟩:=I.loc
 {m,Z,I.bk,dA I.ok.bsz I.ok.above}
theorem Inv.lt(I:Inv X pins σ H s):X.env.locals<s.heap.objs.size:=let ⟨_,Z,_⟩:=I.loc;Z.lt
theorem Inv.sz(I:Inv X pins σ H s):X.s₀.heap.objs.size<=s.heap.objs.size:=dA I.ok.above (jR I.lt)
theorem Inv.nofs(I:Inv X pins σ H s){a:aa}(h:s.heap.objs.size<=a):a∉X.fs:=fun hb=>by
 obtain⟨_,o,ho,_⟩:=I.ok.funs.mem hb;exact absurd (bD (aQ ho) (dA I.sz h)) (g9 _)
theorem Inv.cne(I:Inv X pins σ H s):∀x c,X.env.cells.lookup x=some c->c≠X.env.locals:=fun x c e z=>by
 obtain⟨v,o,ho,hd⟩:=I.cell x c e;obtain⟨m,⟨o',es,ep,Z,Y,_⟩,_⟩:=I.loc;rw[z,Z]at ho;cases ho;rw[Y]at hd;cases hd
theorem Inv.funs(I:Inv X pins σ H s):s.heap.FunFrames X.base X.outer:=by
 have all:∀(l:List Env),(∀b∈frs l,b∈X.fs)->X.s₀.heap.FunFrames X.base l->s.heap.FunFrames X.base l:=by
  intro l
  induction l with
  |nil=>intro _ _;trivial
  |cons env r W=>
   intro hs hl;obtain⟨hk,⟨L,o,Z,V,ho,hd⟩,hr⟩:=hl;have Y:L∈X.fs:=hs L (by unfold frs;rw[rZ,Z];exact aC);obtain⟨sl,e⟩:=I.base.slot L o ho (I.ok.frf L Y) Y fun z=>I.ok.exfs L z Y;exact{hk,{L,_,Z,V,e,hd},W (fun b hb=>hs b (by unfold frs;rw[rZ,Z];exact ah _ hb)) hr}
 exact all X.outer (fun _ hb=>hb) I.ok.funs
theorem Inv.stack(I:Inv X pins σ H s):s.heap.FunFrames X.base X.stack:=by
 rcases I.ok.stk with e|⟨e,Z⟩
 ·rw[e];exact I.funs
 ·rw[e];obtain⟨m,Y,_⟩:=I.loc;refine .cons (by rw[I.ok.kind];decide) Z Y ?_ I.funs;exact Heap.get?_none_of_le (dA I.ok.bsz I.ok.above)
theorem Inv.stkSub(I:Inv X pins σ H s):∀b∈frs X.stack,b∈X.env.locals::X.fs:=fun b hb=>by
 rcases I.ok.stk with e|⟨e,Z⟩
 ·rw[e]at hb;exact ah _ hb
 ·rw[e]at hb;unfold frs at hb;rw[rZ,Z]at hb;exact hb
theorem Inv.stkFree(I:Inv X pins σ H s):∀b∈frs X.stack,H b=none:=fun b hb=>by
 rcases ar.mp (I.stkSub b hb) with e|hb
 ·rw[e];exact I.free
 ·obtain⟨_,o,ho,_⟩:=I.ok.funs.mem hb;exact I.base.free b o ho (I.ok.frf b hb) fun z=>I.ok.exfs b z hb
theorem Inv.step{g':Array GenState}{t':Nat}{d':Drawn}{ch:List aa}(I:Inv X pins σ H s)
  (W:∀b∈ch,(b∈X.ex\/X.s₀.heap.objs.size<=b)/\b≠X.env.locals/\(∀x c,X.env.cells.lookup x=some c->c≠b)/\∀p∈X.pn++pins,p.1≠b)
  (keep:∀b o,b≠X.env.locals->b∉X.fs->b∉ch->s.heap.get? b=some o->H b=none->h'.get? b=some o)
  (slot:∀b o,b≠X.env.locals->b∈X.fs->b∉ch->s.heap.get? b=some o->H b=none->∃sl,h'.get? b=some {o with slots:=sl}) (free:∀b o,b∉ch->s.heap.get? b=some o->H b=none->H' b=none)
  (there:∀b o,b∉ch->s.heap.get? b=some o->∃o',h'.get? b=some o')
  (tups:∀b xs,H b=some (.tup xs)->H' b=some (.tup xs)) (frzs:∀b o u,H b=some (.frz o u)->H' b=some (.frz o u)) (tbls:∀b ps,H b=some (.tbl ps)->∃more,H' b=some (.tbl (ps++more)))
  (ns:∀m,s.heap.Ns X.env.locals m->h'.Ns X.env.locals m) (hok:HOk X.prog X.w H' h') (g:pY g') :
  Inv X pins σ H' {s with heap:=h',gens:=g',drawn:=d',toks:=t'}:=by
 have O:∀b o,X.s₀.heap.get? b=some o->b≠X.env.locals:=fun b o e=>aR (bD (aQ e) I.ok.above);have V:∀b o,X.s₀.heap.get? b=some o->b∉X.ex->b∉ch:=fun b o e hx hb=>by
  rcases (W b hb).1 with z|z
  ·exact hx z
  ·exact absurd (bD (aQ e) z) (g9 _)
 have Y:∀x c,X.env.cells.lookup x=some c->∀v,s.heap.IsCell c v->h'.IsCell c v:=fun x c e v ⟨o,ho,hd⟩=>by
  have Z:c∉ch:=fun z=>(W c z).2.2.1 x c e rfl
  by_cases hc:c∈X.fs
  ·obtain⟨sl,q⟩:=slot c o (I.cne x c e) hc Z ho (I.freeC x c e);exact{_,q,hd}
  ·exact{o,keep c o (I.cne x c e) hc Z ho (I.freeC x c e),hd}
 refine{I.ok,I.os,g,{fun b o e n hb hx=>?_,fun b o e n hb hx=>?_,fun b o e n hx=>?_,fun b o e hx=>?_,fun b xs e=>tups b xs (I.base.tups b xs e),fun b o xs e=>frzs b o xs (I.base.frzs b o xs e),fun b ps e=>?_},?_,fun x c e=>?_,?_,fun x c e=>?_,fun p hp=>?_,hok,I.len}
 ·exact keep b o (O b o e) hb (V b o e hx) (I.base.keep b o e n hb hx) (I.base.free b o e n hx)
 ·obtain⟨sl,e1⟩:=I.base.slot b o e n hb hx;obtain⟨M,U⟩:=slot b _ (O b o e) hb (V b o e hx) e1 (I.base.free b o e n hx);exact⟨M,U⟩
 ·obtain⟨o',e1⟩:=I.base.there b o e hx;exact free b o' (V b o e hx) e1 (I.base.free b o e n hx)
 ·obtain⟨o',e1⟩:=I.base.there b o e hx;exact there b o' (V b o e hx) e1
 ·obtain⟨m1,e1⟩:=I.base.tbls b ps e;obtain⟨D,U⟩:=tbls b _ e1;exact{m1++D,by rw[U,Array.append_assoc]}
 ·obtain⟨m,t,hl⟩:=I.loc;refine{m,ns m t,fun i x v e1 U e3=>?_};obtain⟨u,r,l⟩:=hl i x v e1 U e3;refine{u,r,?_}
  rcases l with l|⟨k,c,e,z⟩
  ·exact .inl l
  ·exact .inr {k,c,e,Y x c e _ z}
 ·obtain⟨v,z⟩:=I.cell x c e;exact{v,Y x c e v z}
 ·obtain⟨m,⟨o,_,_,ho,_⟩,_⟩:=I.loc;exact free _ o (fun z=>(W _ z).2.1 rfl) ho I.free
 ·obtain⟨v,o,ho,hd⟩:=I.cell x c e;exact free c o (fun z=>(W c z).2.2.1 x c e rfl) ho (I.freeC x c e)
 ·obtain⟨e,n,ne,J,d⟩:=I.pin p hp;have Z:p.1∉ch:=fun z=>(W p.1 z).2.2.2 p hp rfl;exact{keep p.1 p.2 ne J Z e n,free p.1 p.2 Z e n,ne,J,d}
theorem Inv.un{t':Nat}(I:Inv X pins σ H s)(u:Un X.fs [] H H' s.heap h')(hok:HOk X.prog X.w H' h'):Inv X pins σ H' {s with heap:=h',toks:=t'}:=by
 obtain⟨m,⟨o,es,ep,ho,r⟩,_⟩:=id I.loc;obtain⟨sl,V⟩:=u.any ho I.free (by simp);exact I.step (g':=s.gens) (d':=s.drawn) (ch:=[]) (fun _ z=>nomatch z) (fun b o _ hb _ e n=>u.keep b o e n hb (by simp)) (fun b o _ hb _ e n=>u.slot b o e n hb (by simp)) (fun b o _ e n=>u.free b o e n (by simp)) (fun b o _ e=>u.there b o e (by simp)) u.tups u.frzs u.tbls (fun O hm=>by
  obtain⟨o',W,Y,Z,U⟩:=hm;rw[ho]at Z;cases Z;exact{_,W,Y,V,U}) hok I.bare
theorem Inv.call{g':Array GenState}{t':Nat}{d':Drawn}{ch:List aa}(I:Inv X pins σ H s)(u:Un (frs X.stack) ch H H' s.heap h')(hok:HOk X.prog X.w H' h')(O:pY g')
  (Y:∀b∈ch,(b∈X.ex\/X.s₀.heap.objs.size<=b)/\b≠X.env.locals/\(∀x c,X.env.cells.lookup x=some c->c≠b)/\∀p∈X.pn++pins,p.1≠b) :
  Inv X pins σ H' {s with heap:=h',gens:=g',drawn:=d',toks:=t'}:=by
 obtain⟨m,⟨o,es,ep,ho,r⟩,_⟩:=id I.loc;obtain⟨sl,W⟩:=u.any ho I.free fun z=>(Y _ z).2.1 rfl;exact I.step (ch:=ch) Y (fun b o W hb hc e n=>u.keep b o e n (fun z=>(ar.mp (I.stkSub b z)).elim W hb) hc) (fun b o _ _ hc e n=>u.any e n hc) (fun b o hc e n=>u.free b o e n hc) (fun b o hc e=>u.there b o e hc) u.tups u.frzs u.tbls (fun J hm=>by
  obtain⟨o',U,V,Z,M⟩:=hm;rw[ho]at Z;cases Z;exact{_,U,V,W,M}) hok O
theorem Inv.turned{t':Nat}{it:aa}(I:Inv X pins σ H s)(k:∀b o,b≠it->s.heap.get? b=some o->h'.get? b=some o)(V:H it=none)(Y:it≠X.env.locals)
  (h1:it∈X.ex\/X.s₀.heap.objs.size<=it) (h2:∀x c,X.env.cells.lookup x=some c->c≠it) (W:∀p∈X.pn++pins,p.1≠it):Inv X pins σ H {s with heap:=h',toks:=t'}:=by
 have Z:∀b u,H b=some u->b≠it:=fun b u e z=>by rw[z,V]at e;cases e
 refine I.step (g':=s.gens) (d':=s.drawn) (ch:=[it]) (fun b hb=>?_) (fun b o _ _ hc e _=>k b o (fun z=>hc (by simp[z])) e) (fun b o _ _ hc e _=>{o.slots,k b o (fun z=>hc (by simp[z])) e}) (fun _ _ _ _ n=>n)
  (fun b o hc e=>{o,k b o (fun z=>hc (by simp[z])) e}) (fun _ _ e=>e) (fun _ _ _ e=>e) (fun b ps e=>{#[],by rw[e];simp}) (fun m hm=>?_) (fun b u e=>?_) I.bare
 ·have e:b=it:=by simpa using hb
  subst e;exact⟨h1,Y,h2,W⟩
 ·obtain⟨o,es,ep,ho,r⟩:=hm;exact{o,es,ep,k _ o (gj Y) ho,r}
 ·refine (I.hok b u e).stay (fun c v hc q=>k c v ?_ q) (fun _ q=>q) fun _ _ q=>q
  rcases hc with z|z
  ·rw[z];exact Z b u e
  ·exact Z c _ z
theorem Inv.tok(I:Inv X pins σ H s)(t:Nat):Inv X pins σ H {s with toks:=t}:=I.un (h':=s.heap) (t':=t) Un.refl I.hok
theorem Inv.kept{t':Nat}(I:Inv X pins σ H s)(k:∀b u,s.heap.get? b=some u->h'.get? b=some u):Inv X pins σ H {s with heap:=h',toks:=t'}:=I.un (Un.kept k) (I.hok.kept k)
theorem Inv.laid{a:aa}{o:HO}{t':Nat}(I:Inv X pins σ H s)(k:∀b u,s.heap.get? b=some u->h'.get? b=some u)(hp:s.heap.objs.size<=a)(new:eE X.prog X.w (upd H a o) h' a o) :
  Inv X pins σ (upd H a o) {s with heap:=h',toks:=t'}:=I.un (Un.laid k hp (I.hok.fresh hp)) (I.hok.laid k hp new)
theorem Inv.write{x e:aa}{o:HO}{t':Nat}(I:Inv X pins σ H s)(W:Mut (H x))(Y:e=x\/H e=some (.own x))(k:∀b u,b≠e->s.heap.get? b=some u->h'.get? b=some u)(Z:∃u,h'.get? e=some u)
  (new:eE X.prog X.w (upd H x o) h' x o):Inv X pins σ (upd H x o) {s with heap:=h',toks:=t'}:=I.un (Un.write W Y k Z) (I.hok.write W Y k Z new)
theorem Inv.weak{Z:List (Option V)}(I:Inv X pins σ H s)(hl:Z.length=σ.length)(w:∀(i:Nat) v,Z[i]?=some (some v)->σ[i]?=some (some v)):Inv X pins Z H s:=
 {I.ok,I.os,I.bare,I.base,let ⟨m,U,Y⟩:=I.loc;{m,U,fun i x v e1 W e3=>Y i x v e1 (w i v W) e3},I.cell,I.free,I.freeC,I.pin,I.hok,hl.trans I.len}
theorem Inv.pins_of{Z:List (aa×Obj)}(I:Inv X pins σ H s)(h:∀p∈Z,s.heap.get? p.1=some p.2/\H p.1=none/\p.1≠X.env.locals/\p.1∉X.fs/\∀v,p.2.data≠.cell v):Inv X Z σ H s:=
 {I.ok,I.os,I.bare,I.base,I.loc,I.cell,I.free,I.freeC,fun p hp=>(bY.mp hp).elim (fun z=>I.pin p (gU _ z)) (h p),I.hok,I.len}
theorem vQ{N:List Str}(Y:N.Nodup){i j:Nat}{x:Str}(a:N[i]?=some x)(b:N[j]?=some x):i=j:=by
 obtain⟨h1,e1⟩:=aG.mp a;obtain⟨h2,Z⟩:=aG.mp b;exact (List.getElem_inj Y).mp (e1.trans Z.symm)
theorem xV{M:Jb}{A:bZ}{E:af->ak->Prop}{i:Nat}{x:Str}{v:V}{u:af}{Q:Unit->ak->Prop}(I:Inv X pins σ H s)(hN:X.N.Nodup)(hi:X.N[i]?=some x)(hx:Loc X.env.scope x)(r:RelV v u)
  (h:∀s',Inv X pins (σ.set i (some v)) H s'->(∃a,uB a s.heap s'.heap/\(a=X.env.locals\/X.env.cells.lookup x=some a))->Q () s') (hf:X.fn x=true\/X.env.scope.names.lookup x=some .local:=by first|exact .inl rfl|exact .inr rfl|assumption):aX M A (storeName X.env x u) Q E s:=by
 obtain⟨m,hn,hl⟩:=id I.loc;have t:(X.env.scope.kind==.class||(X.env.scope.kind==.module&&X.env.locals != X.env.globals))=false:=by rw[I.ok.kind];rfl
 have U:i<σ.length:=by rw[I.len];exact (aG.mp hi).1
 have cne:=I.cne;have Z:∀{a:aa} {h':cz},(∃o,s.heap.get? a=some o/\H a=none)->uB a s.heap h'->HOk X.prog X.w H h':=fun {a h'} ha hs b ob e=>by
  obtain⟨_,_,Y⟩:=ha;refine (I.hok b ob e).stay (fun c w' hc q=>(hs.2 c ?_).trans q) (fun _ q=>q) fun _ _ q=>q;rintro rfl
  rcases hc with rfl|hc
  ·rw[Y]at e;cases e
  ·rw[Y]at hc;cases hc
 rcases hx with hk|hk
 ·refine wpAny_storeName_local hk hn (fun h' cd hs=>?_) t;obtain⟨oL,_,_,ce,_⟩:=id hn;refine h _ {I.ok,I.os,I.bare,{fun b o e n hb hx=>?_,fun b o e n hb hx=>?_,I.base.free,fun b o e hx=>?_,I.base.tups,I.base.frzs,I.base.tbls},{_,cd,fun j y v' e1 W e3=>?_},fun y c e=>?_,I.free,I.freeC,fun p hp=>?_,Z ⟨oL,ce,I.free⟩ hs,by simpa using I.len} {_,hs,.inl rfl}
  ·exact (hs.2 b (aR (bD (aQ e) I.ok.above))).trans (I.base.keep b o e n hb hx)
  ·obtain⟨sl,e1⟩:=I.base.slot b o e n hb hx;exact{sl,(hs.2 b (aR (bD (aQ e) I.ok.above))).trans e1}
  ·obtain⟨o',e1⟩:=I.base.there b o e hx;exact{o',(hs.2 b (aR (bD (aQ e) I.ok.above))).trans e1}
  ·by_cases O:j=i
   ·subst O;rw[hi]at e1;cases e1;rw[fJ U]at W
    cases W;exact{u,r,.inl {hk,by simp}}
   ·rw[i0 (gj O)]at W;obtain⟨u',r',q⟩:=hl j y v' e1 W e3;refine{u',r',?_}
    rcases q with⟨k,e⟩|⟨k,c,e,z⟩
    ·refine .inl {k,?_};have:y≠x:=fun e=>O (vQ hN e1 (e ▸ hi));simp[this,e]
    ·exact .inr {k,c,e,z.sameBut hs (cne y c e)}
  ·obtain⟨w',z⟩:=I.cell y c e;exact{w',z.sameBut hs (cne y c e)}
  ·obtain⟨e,n,ne,nf,d⟩:=I.pin p hp;exact{(hs.2 p.1 ne).trans e,n,ne,nf,d}
 ·have J:X.fn x=true:=by
   rcases hf with z|z
   ·exact z
   ·rw[z]at hk;cases hk
  obtain⟨c,hc⟩:=I.ok.has x (.inl hk);obtain⟨w',z⟩:=I.cell x c hc;refine wpAny_storeName_cell I.ok.kind hk hc z (fun h' g hs=>?_);obtain⟨oc,D,cp⟩:=id z;refine h {s with heap:=h'} {I.ok,I.os,I.bare,{fun b o e n hb hx=>?_,fun b o e n hb hx=>?_,I.base.free,fun b o e hx=>?_,I.base.tups,I.base.frzs,I.base.tbls},{m,hn.sameBut hs (gj (cne x c hc)),fun j y v' e1 W e3=>?_},fun y c' e=>?_,I.free,I.freeC,fun p hp=>?_,Z {oc,D,I.freeC x c hc} hs,by simpa using I.len} {c,hs,.inr hc}
  ·exact (hs.2 b (aR (bD (aQ e) (I.ok.cab x c J hc)))).trans (I.base.keep b o e n hb hx)
  ·obtain⟨sl,e1⟩:=I.base.slot b o e n hb hx;exact{sl,(hs.2 b (aR (bD (aQ e) (I.ok.cab x c J hc)))).trans e1}
  ·obtain⟨o',e1⟩:=I.base.there b o e hx;exact{o',(hs.2 b (aR (bD (aQ e) (I.ok.cab x c J hc)))).trans e1}
  ·by_cases O:j=i
   ·subst O;rw[hi]at e1;cases e1;rw[fJ U]at W
    cases W;exact{u,r,.inr {.inl hk,c,hc,g}}
   ·rw[i0 (gj O)]at W;obtain⟨u',r',q⟩:=hl j y v' e1 W e3;refine{u',r',?_}
    rcases q with q|⟨k,c',e,z'⟩
    ·exact .inl q
    ·refine .inr {k,c',e,z'.sameBut hs ?_};rintro rfl;exact O (vQ hN e1 (I.ok.inj _ _ _ e hc ▸ hi))
  ·by_cases ci:c'=c
   ·subst ci;exact{_,g}
   ·obtain⟨w2,z2⟩:=I.cell y c' e;exact{w2,z2.sameBut hs ci}
  ·obtain⟨e,n,ne,nf,d⟩:=I.pin p hp;refine{(hs.2 p.1 ?_).trans e,n,ne,nf,d};intro q;rw[q,D]at e;have q':oc=p.2:=dM e;exact d w' (by rw[<- q'];exact cp)
theorem sC{M:Jb}{A:bZ}{E:af->ak->Prop}{i:Nat}{x:Str}{v:V}{u:af}{Q:Unit->ak->Prop}(I:Inv X pins σ H s)(W:X.N.Nodup)(hi:X.N[i]?=some x)(hx:Loc X.env.scope x)(r:RelV v u)
  (h:∀s',Inv X pins (σ.set i (some v)) H s'->Q () s') (Y:X.fn x=true\/X.env.scope.names.lookup x=some .local:=by first|exact .inl rfl|exact .inr rfl|assumption):aX M A (storeName X.env x u) Q E s:=
 xV I W hi hx r (fun s' Z _=>h s' Z) Y
theorem Inv.call'{s':ak}{ch:List aa}(I:Inv X pins σ H s)(ho:s'.os=s.os)(u:Un (frs X.stack) ch H H' s.heap s'.heap)(hok:HOk X.prog X.w H' s'.heap)(Y:pY s'.gens)
  (Z:∀b∈ch,(b∈X.ex\/X.s₀.heap.objs.size<=b)/\b≠X.env.locals/\(∀x c,X.env.cells.lookup x=some c->c≠b)/\∀p∈X.pn++pins,p.1≠b):Inv X pins σ H' s':=by
 obtain⟨h',g',d',t',o'⟩:=s';have e:o'=s.os:=ho;subst e;exact I.call (g':=g') (t':=t') (d':=d') u hok Y Z
end
abbrev XK:=af->Option aa->Hp->Prop
abbrev St:=List (Option V)
abbrev VK:=V->Hp->Prop
abbrev TE:=St->Hp->VK->Prop
abbrev TT:=St->Hp->(Bool->Hp->Prop)->Prop
abbrev TA:=St->Hp->(List V->Hp->Prop)->Prop
structure m5 where
 nx:St->Hp->Prop
 rt:VK
 bk:St->Hp->Prop:=fun _ _=>False
 ct:St->Hp->Prop:=fun _ _=>False
abbrev TS:=m5->St->Hp->Prop
def EP(X:Cx)(pins:List (aa×Obj))(σ:St)(Q:VK)(u:af)(s':ak):Prop:=∃v H',Inv X pins σ H' s'/\RelV v u/\Q v H'
def TP(X:Cx)(pins:List (aa×Obj))(σ:St)(Q:Bool->Hp->Prop)(b:Bool)(s':ak):Prop:=∃H',Inv X pins σ H' s'/\Q b H'
def AP(X:Cx)(pins:List (aa×Obj))(σ:St)(Q:List V->Hp->Prop)(us:List af)(s':ak):Prop:=∃vs H',Inv X pins σ H' s'/\cX vs us/\Q vs H'
def SP(X:Cx)(pins:List (aa×Obj))(D:m5)(f:Flow)(s':ak):Prop:=
 match f with
 |.next=>∃Z H',Inv X pins Z H' s'/\D.nx Z H'
 |.brk=>∃Z H',Inv X pins Z H' s'/\D.bk Z H'
 |.cont=>∃Z H',Inv X pins Z H' s'/\D.ct Z H'
 |.ret u=>∃v Z H',Inv X pins Z H' s'/\RelV v u/\D.rt v H'
def PE(X:Cx)(e:cN)(t:TE):Prop:=
 ∀(pins:List (aa×Obj)) (s:ak) (σ:St) (H:Hp) (Q:VK),Inv X pins σ H s->t σ H Q->aX (bf X.prog X.w) X.A (fg e X.env) (EP X pins σ Q) X.xe s
def PT(X:Cx)(e:cN)(t:TT):Prop:=
 ∀(pins:List (aa×Obj)) (s:ak) (σ:St) (H:Hp) (Q:Bool->Hp->Prop),Inv X pins σ H s->t σ H Q->aX (bf X.prog X.w) X.A (Fp e X.env (fg e X.env)) (TP X pins σ Q) X.xe s
def PW(X:Cx)(e:cN)(t:TT):Prop:=
 ∀(Z:Sem af) (pins:List (aa×Obj)) (s:ak) (σ:St) (H:Hp) (Q:Bool->Hp->Prop),Inv X pins σ H s->t σ H Q->aX (bf X.prog X.w) X.A (Fp e X.env Z) (TP X pins σ Q) X.xe s
theorem PW.pt{X:Cx}{e:cN}{t:TT}(h:PW X e t):PT X e t:=h _
def PA(X:Cx)(es:List cN)(t:TA):Prop:=
 ∀(pos:Pos) (pins:List (aa×Obj)) (s:ak) (σ:St) (H:Hp) (Q:List V->Hp->Prop),Inv X pins σ H s->t σ H Q->aX (bf X.prog X.w) X.A (spliced (iN pos (cu es X.env))) (AP X pins σ Q) X.xe s
def PS(X:Cx)(st:cT)(t:TS):Prop:=
 ∀(pins:List (aa×Obj)) (s:ak) (σ:St) (H:Hp) (D:m5),Inv X pins σ H s->t D σ H->aX (bf X.prog X.w) X.A (exec st X.env) (SP X pins D) X.xe s
def PSs(X:Cx)(st:List cT)(t:TS):Prop:=
 ∀(pins:List (aa×Obj)) (s:ak) (σ:St) (H:Hp) (D:m5),Inv X pins σ H s->t D σ H->aX (bf X.prog X.w) X.A (execs st X.env) (SP X pins D) X.xe s
theorem thn{Z:Type}{t:Sem Z}{Q Y:Z->ak->Prop}{M:Jb}{A:bZ}{E:af->ak->Prop}{s:ak}(h:aX M A t Q E s)(W:∀a s,Q a s->Y a s):aX M A t Y E s:=eu h W fun _ _ x=>x
section
variable{X:Cx}
theorem bin{a b:cN}{ta tb:TE}(ha:PE X a ta)(hb:PE X b tb){pins:List (aa×Obj)}{s:ak}{σ:St}{H:Hp}{R:V->V->Hp->Prop}(I:Inv X pins σ H s)(h:ta σ H fun x H1=>tb σ H1 fun y H2=>R x y H2)
  {W:Type} {Q:W->ak->Prop} {f:af->af->Sem W}
  (O:∀v u s2 x y H2,Inv X pins σ H2 s2->RelV x v->RelV y u->R x y H2->aX (bf X.prog X.w) X.A (f v u) Q X.xe s2) :
  aX (bf X.prog X.w) X.A (fg a X.env) (fun v Y=>aX (bf X.prog X.w) X.A (fg b X.env) (fun u Z=>aX (bf X.prog X.w) X.A (f v u) Q X.xe Z) X.xe Y) X.xe s:=by
 refine thn (ha pins s σ H _ I h) fun v D ⟨x,H1,U,r1,z⟩=>?_;refine thn (hb pins D σ H1 _ U z) fun u s2 ⟨y,H2,J,r2,M⟩=>?_;exact O v u s2 x y H2 J r1 r2 M
set_option genSizeOf false
set_option genInjectivity false
inductive TVar(i:Nat)(σ:St)(H:Hp)(Q:VK):Prop where
 |mk(v:V)(h:σ[i]?=some (some v))(q:Q v H):TVar i σ H Q
def Jc(i:Nat):TE:=fun σ H Q=>TVar i σ H Q
def tC(v:V):TE:=fun _ H Q=>Q v H
theorem MV{i:Nat}{x:Str}{pos:Pos}(W:X.N[i]?=some x)(hv:Vis X.env.scope x)(hd:(x==("__debug__":Str))=false:=by decide)(Y:(x==("__classdict__":Str))=false:=by decide):PE X (.Name x pos) (Jc i):=by
 intro pins s σ H Q I h;obtain⟨v,e,h⟩:=h;obtain⟨m,V,hl⟩:=I.loc;obtain⟨u,r,l⟩:=hl i x v W e hv;have fin:EP X pins σ Q u s:=⟨v,H,I,r,h⟩
 rcases l with⟨hk,hm⟩|⟨hk,c,hc,Z⟩
 ·exact MX (wpAny_loadName_local I.ok.kind hk V hm fin) hd
 ·rcases hk with hk|hk
  ·exact MX (wpAny_loadName_cell I.ok.kind hk hc Z fin) hd
  ·exact MX (wpAny_loadName_free I.ok.kind hk hc Z fin Y) hd
theorem aw {i j pos}:PE X (.Constant (.int i) j pos) (tC (.int i)):=fun _ _ _ H _ I h=>wpAny_Constant_int {.int i,H,I.tok _,{_,rfl},h}
theorem lD {b j pos}:PE X (.Constant (.bool b) j pos) (tC (.bl b)):=fun _ _ _ H _ I h=>Constant_bool {.bl b,H,I,rfl,h}
theorem tQ {j pos}:PE X (.Constant .none j pos) (tC .non):=fun _ _ _ H _ I h=>Ec {.non,H,I,rfl,h}
theorem cb {x j pos}:PE X (.Constant (.str x) j pos) (tC (.str x)):=fun _ _ _ H _ I h=>Calls.Constant_str {.str x,H,I.tok _,{_,rfl},h}
def Gl(X:Cx)(x:Str):Prop:=X.env.kindOf x=some .globalImplicit
theorem qW{E:af->ak->Prop}{pins:List (aa×Obj)}{s:ak}{σ:St}{H:Hp}{x:Str}{u:af}{pos:Pos}{Q:af->ak->Prop}(I:Inv X pins σ H s)(Z:Gl X x)(hm:X.mg x=some u)(h:Q u s)
  (hd:(x==("__debug__":Str))=false:=by decide):aX (bf X.prog X.w) X.A (fg (.Name x pos) X.env) Q E s:=
 xt I.ok.kind Z (Calls.loadGlobal_global (by rw[I.ok.glob];exact I.mod.glob.keeps I.bk) hm h) hd
theorem p8{E:af->ak->Prop}{pins:List (aa×Obj)}{s:ak}{σ:St}{H:Hp}{x:Str}{u:af}{pos:Pos}{Q:af->ak->Prop}(I:Inv X pins σ H s)(Y:Gl X x)(hm:X.mg x=none)(hv:eQ x=some u)(h:Q u s)
  (Z:x≠"__name__":=by decide) (hd:(x==("__debug__":Str))=false:=by decide):aX (bf X.prog X.w) X.A (fg (.Name x pos) X.env) Q E s:=by
 obtain⟨W,h1,h2⟩:=I.mod.blt;exact xt I.ok.kind Y (Calls.loadGlobal_builtin (by rw[I.ok.glob];exact I.mod.glob.keeps I.bk) hm (by rw[I.ok.blt];exact h1.keeps I.bk) ((h2 x Z).trans hv) h) hd
theorem sE{x:Str}{v:V}{u:af}{pos:Pos}(Y:Gl X x)(hm:X.mg x=none)(hv:eQ x=some u)(r:RelV v u)(Z:x≠"__name__":=by decide)(hd:(x==("__debug__":Str))=false:=by decide):PE X (.Name x pos) (tC v):=
 fun _ _ _ H _ I h=>p8 I Y hm hv ⟨v,H,I,r,h⟩ Z hd
variable{a b:cN}{ta tb:TE}{pos:Pos}
def PC(X:Cx)(op:Jd)(a b:cN)(t:TE):Prop:=
 ∀(pins:List (aa×Obj)) (s:ak) (σ:St) (H:Hp) (Q:VK),Inv X pins σ H s->t σ H Q ->
  aX (bf X.prog X.w) X.A (fg a X.env) (fun v Y=>aX (bf X.prog X.w) X.A (fg b X.env) (fun u Z=>aX (bf X.prog X.w) X.A (cU op v u) (EP X pins σ Q) X.xe Z) X.xe Y) X.xe s
theorem z9(b:cN){op:Jd}(h:op≠.In)(h2:op≠.NotIn):i5 op b=false:=by
 have e1:(op==CmpOp.In)=false:=by cases op<;>first|rfl|exact absurd rfl h
 have Z:(op==CmpOp.NotIn)=false:=by cases op<;>first|rfl|exact absurd rfl h2
 cases b<;>simp[i5,e1,Z]
def tIsN(ta:TE):TE:=fun σ H Q=>ta σ H fun x H1=>Q (.bl (decide (x=.non))) H1
def tNotN(ta:TE):TE:=fun σ H Q=>ta σ H fun x H1=>Q (.bl (!decide (x=.non))) H1
theorem RelV.none_iff{x:V}{v:af}(r:RelV x v):(v==Value.none)=decide (x=.non):=by
 cases x with
 |non=>cases r;rfl
 |bl _=>cases r;rfl
 |int _=>obtain⟨t,rfl⟩:=r;rfl
 |str _=>obtain⟨t,rfl⟩:=r;rfl
 |byt _=>obtain⟨t,rfl⟩:=r;rfl
 |flt _=>obtain⟨t,rfl⟩:=r;rfl
 |ref _=>cases r;rfl
 |ty _=>cases r;rfl
theorem Bb {j pos'} (ha:PE X a ta):PC X .Is a (.Constant .none j pos') (tIsN ta):=by
 intro pins s σ H Q I h;refine thn (ha pins s σ H _ I h) fun v W ⟨x,H1,Z,r1,Y⟩=>?_;exact Ec (is_none_gen {.bl _,H1,Z,by rw[r1.none_iff];rfl,Y})
theorem vk {j pos'} (ha:PE X a ta):PC X .IsNot a (.Constant .none j pos') (tNotN ta):=by
 intro pins s σ H Q I h;refine thn (ha pins s σ H _ I h) fun v W ⟨x,H1,Z,r1,Y⟩=>?_;exact Ec (isnot_none_gen {.bl _,H1,Z,by rw[r1.none_iff];rfl,Y})
inductive BlI(x:V)(H:Hp)(Q:Bool->Hp->Prop):Prop where
 |mk(c:Bool)(h:x=.bl c)(q:Q c H):BlI x H Q
def tB(t:TE):TT:=fun σ H Q=>t σ H fun x H1=>BlI x H1 Q
theorem MY{op:Jd}{t:TE}(h:PC X op a b t)(h1:i5 op b=false:=by first|exact z9 _ (by decide) (by decide)|rfl):PE X (.Compare a [op] [b] pos) t:=fun pins s σ H Q I hw=>wpAny_Compare1 (h pins s σ H Q I hw) h1
theorem oK{op:Jd}{t:TE}(h:PC X op a b t)(h1:i5 op b=false:=by first|exact z9 _ (by decide) (by decide)|rfl):PT X (.Compare a [op] [b] pos) (tB t):=by
 intro pins s σ H Q I hw;refine IQ (thn (h pins s σ H _ I hw) fun v W h1=>thn h1 fun u s2 h2=>thn h2 fun c V ⟨x,H1,Z,r1,Y⟩=>?_) h1;obtain⟨d,rfl,q⟩:=Y
 cases r1;exact kJ ⟨H1,Z,q⟩
theorem p9{e:cN}{t:TE}(h:PE X e t)(W:∀Z,Fp e X.env Z=(do let v <- Z;uC e.pos;pZ [v] (truthy v)):=by intro _;rfl):PT X e (tB t):=by
 intro pins s σ H Q I hw;refine isTrue_plain (thn (h pins s σ H _ I hw) fun v U ⟨x,H1,Y,r1,V⟩=>?_) (W _);obtain⟨d,rfl,q⟩:=V
 cases r1;exact kJ ⟨H1,Y,q⟩
variable{tA tB':TT}{rest:List cN}
def tAnd(t u:TT):TT:=fun σ H Q=>t σ H fun c H1=>if c=true then u σ H1 Q else Q false H1
def tOr(t u:TT):TT:=fun σ H Q=>t σ H fun c H1=>if c=true then Q true H1 else u σ H1 Q
def tNot(t:TT):TT:=fun σ H Q=>t σ H fun c H1=>Q (!c) H1
theorem mJ(ha:PT X a tA):PW X (.BoolOp .And [a] pos) tA:=by
 intro Z pins s σ H Q I h;refine isTrue_and (thn (ha pins s σ H Q I h) fun c Y e=>?_)
 cases c with
 |true=>exact isTrue_and_nil e
 |false=>exact e
theorem Fq(ha:PT X a tA):PW X (.BoolOp .Or [a] pos) tA:=by
 intro Z pins s σ H Q I h;refine isTrue_or (thn (ha pins s σ H Q I h) fun c Y e=>?_)
 cases c with
 |false=>exact isTrue_or_nil e
 |true=>exact e
theorem oM(ha:PT X a tA)(hb:PW X (.BoolOp .And (b::rest) pos) tB'):PW X (.BoolOp .And (a::b::rest) pos) (tAnd tA tB'):=by
 intro W pins s σ H Q I h;refine isTrue_and (thn (ha pins s σ H _ I h) fun c V ⟨H1,Z,Y⟩=>?_)
 cases c with
 |true=>exact hb W pins V σ H1 Q Z Y
 |false=>exact⟨H1,Z,Y⟩
theorem Le(ha:PT X a tA)(hb:PW X (.BoolOp .Or (b::rest) pos) tB'):PW X (.BoolOp .Or (a::b::rest) pos) (tOr tA tB'):=by
 intro W pins s σ H Q I h;refine isTrue_or (thn (ha pins s σ H _ I h) fun c V ⟨H1,Z,Y⟩=>?_)
 cases c with
 |true=>exact⟨H1,Z,Y⟩
 |false=>exact hb W pins V σ H1 Q Z Y
theorem yK(ha:PT X a tA):PT X (.UnaryOp .Not a pos) (tNot tA):=by
 intro pins s σ H Q I h;exact isTrue_not (ha pins s σ H (fun c H1=>Q (!c) H1) I h)
def tIf(t:TT)(ta tb:TE):TE:=fun σ H Q=>t σ H fun c H1=>if c=true then ta σ H1 Q else tb σ H1 Q
theorem vS{c:cN}(hc:PT X c tA)(ha:PE X a ta)(hb:PE X b tb):PE X (.IfExp c a b pos) (tIf tA ta tb):=by
 intro pins s σ H Q I h;refine wpAny_IfExp (thn (hc pins s σ H _ I h) fun d Y ⟨H1,Z,W⟩=>?_)
 cases d with
 |true=>exact ha pins Y σ H1 Q Z W
 |false=>exact hb pins Y σ H1 Q Z W
end
def SqL(K:ae)(H:Hp)(a:aa)(xs:List V):Prop:=
 Rd H a (.lst xs) \/
  ∃(o:Obj) (Z:Array af) (n:Nat),K.lookup a=some o/\o.cls=.type "list"/\o.dict=none/\o.data=.seq Z n/\Z.size<=aB/\cX xs Z.toList
def SqT(K:ae)(H:Hp)(a:aa)(xs:List V):Prop:=
 Rd H a (.tup xs) \/
  ∃(o:Obj) (Z:Array af) (n:Nat),K.lookup a=some o/\o.cls=.type "tuple"/\o.data=.seq Z n/\Z.size<=aB/\cX xs Z.toList
def absV:af->Option V
 |.none=>some .non
 |.bool b=>some (.bl b)
 |.int i _=>some (.int i)
 |.str x _=>some (.str x)
 |.bytes b _=>some (.byt b)
 |.float b _=>some (.flt b)
 |.ref a=>some (.ref a)
 |.type n=>some (.ty n)
 |_=>none
theorem RelV.abs{x:V}{u:af}(r:RelV x u):absV u=some x:=by
 cases x with
 |non=>cases r;rfl
 |bl _=>cases r;rfl
 |int _=>obtain⟨t,rfl⟩:=r;rfl
 |str _=>obtain⟨t,rfl⟩:=r;rfl
 |byt _=>obtain⟨t,rfl⟩:=r;rfl
 |flt _=>obtain⟨t,rfl⟩:=r;rfl
 |ref _=>cases r;rfl
 |ty _=>cases r;rfl
theorem RelV.inj{x y:V}{u:af}(r:RelV x u)(q:RelV y u):x=y:=dM (r.abs.symm.trans q.abs)
theorem cX.inj:∀{xs ys:List V} {us:List af},cX xs us->cX ys us->xs=ys
 |_,_,_,.nil,.nil=>rfl
 |_,_,_,.cons r t,.cons Z t'=>by rw[r.inj Z,cX.inj t t']
section
variable{X:Cx}{pins:List (aa×Obj)}{σ:St}{H:Hp}{s:ak}{a:aa}{xs ys:List V}
theorem SqL.of{K:ae}(h:H a=some (.lst xs)):SqL K H a xs:=.inl (.inl h)
theorem SqT.of{K:ae}(h:H a=some (.tup xs)):SqT K H a xs:=.inl (.inl h)
theorem Inv.list(I:Inv X pins σ H s)(h:SqL X.K H a xs):∃Z:List af,cX xs Z/\PlainL s.heap a Z.toArray/\xs.length<=aB:=by
 rcases h with h|⟨o,Z,n,hk,hc,hd,hs,Y,r⟩
 ·obtain⟨z,Z,n,r,e⟩:=h.ok I.hok;exact{Z,r,{_,n,e,rfl,rfl,rfl},z}
 ·refine{Z.toList,r,{o,n,I.kIn a o hk,hc,hd,by simpa using hs},?_};have e:=r.length;simp only[fK]at e;omega
theorem Inv.tuple(I:Inv X pins σ H s)(h:SqT X.K H a xs):∃Z:List af,cX xs Z/\rY s.heap a Z.toArray/\xs.length<=aB:=by
 rcases h with h|⟨o,Z,n,hk,hc,hs,Y,r⟩
 ·obtain⟨z,Z,r,p⟩:=h.ok I.hok;exact⟨Z,r,p,z⟩
 ·refine{Z.toList,r,{o,I.kIn a o hk,hc,n,by simpa using hs},?_};have e:=r.length;simp only[fK]at e;omega
theorem Inv.list_inj(I:Inv X pins σ H s)(h:SqL X.K H a xs)(h':SqL X.K H a ys):xs=ys:=by
 obtain⟨Z,r,⟨o,n,e,_,_,d⟩,_⟩:=I.list h;obtain⟨its',W,⟨o',V,Y,_,_,d'⟩,_⟩:=I.list h';rw[e]at Y;cases Y;rw[d]at d';injection d' with d1 _;have:Z=its':=by simpa using congrArg MZ d1
 subst this;exact r.inj W
theorem Inv.tuple_inj(I:Inv X pins σ H s)(h:SqT X.K H a xs)(h':SqT X.K H a ys):xs=ys:=by
 obtain⟨Z,r,⟨o,e,_,n,d⟩,_⟩:=I.tuple h;obtain⟨its',W,⟨o',Y,_,V,d'⟩,_⟩:=I.tuple h';rw[e]at Y;cases Y;rw[d]at d';injection d' with d1 _;have:Z=its':=by simpa using congrArg MZ d1
 subst this;exact r.inj W
end
abbrev Cx.wish(X:Cx)(E:af->ak->Prop):Cx:={X with xe:=E}
abbrev Cx.nox(X:Cx):Cx:=X.wish fun _ _=>False
theorem Cx.Ok.wish{X:Cx}(ok:X.Ok)(E:af->ak->Prop):(X.wish E).Ok:=
 ⟨ok.mod,ok.kind,ok.glob,ok.blt,ok.above,ok.inj,ok.has,ok.cab,ok.hd,ok.frames,ok.stk,ok.exf,ok.bs,ok.bsz,ok.noex,ok.exfs,ok.funs,ok.frf⟩
theorem Cx.Ok.unwish{X:Cx}{E:af->ak->Prop}(ok:(X.wish E).Ok):X.Ok:=
 ⟨ok.mod,ok.kind,ok.glob,ok.blt,ok.above,ok.inj,ok.has,ok.cab,ok.hd,ok.frames,ok.stk,ok.exf,ok.bs,ok.bsz,ok.noex,ok.exfs,ok.funs,ok.frf⟩
section
variable{X:Cx}{pins:List (aa×Obj)}{σ:St}{H:Hp}{s:ak}{E:af->ak->Prop}
theorem Inv.wish(I:Inv X pins σ H s)(E:af->ak->Prop):Inv (X.wish E) pins σ H s:={I.ok.wish E,I.os,I.bare,I.base,I.loc,I.cell,I.free,I.freeC,I.pin,I.hok,I.len}
theorem Inv.unwish(I:Inv (X.wish E) pins σ H s):Inv X pins σ H s:=⟨I.ok.unwish,I.os,I.bare,I.base,I.loc,I.cell,I.free,I.freeC,I.pin,I.hok,I.len⟩
theorem SP.unwish{D:m5}{f:Flow}{s':ak}(h:SP (X.wish E) pins D f s'):SP X pins D f s':=by
 cases f with
 |next=>obtain⟨Z,H',I,q⟩:=h;exact⟨Z,H',I.unwish,q⟩
 |brk=>obtain⟨Z,H',I,q⟩:=h;exact⟨Z,H',I.unwish,q⟩
 |cont=>obtain⟨Z,H',I,q⟩:=h;exact⟨Z,H',I.unwish,q⟩
 |ret u=>obtain⟨v,Z,H',I,r,q⟩:=h;exact⟨v,Z,H',I.unwish,r,q⟩
theorem PSs.nox{st:List cT}{t:TS}(h:PSs X.nox st t):PSs X st t:=fun pins s σ H D I hw=>
 eu (h pins s σ H D (I.wish _) hw) (fun _ _ q=>q.unwish) fun _ _ z=>cI z
end
section
variable{X:Cx}{st:cT}{rest:List cT}{t u:TS}{e:cN}{te:TE}{pos:Pos}
def j6:TS:=fun D σ H=>D.nx σ H
def M0(t u:TS):TS:=fun D σ H=>t {D with nx:=u D} σ H
theorem bS:PSs X [] j6:=fun _ _ σ H _ I h=>m7 ⟨σ,H,I,h⟩
theorem ai(h1:PS X st t)(h2:PSs X rest u):PSs X (st::rest) (M0 t u):=by
 intro pins s σ H D I h;refine wpAny_execs_cons (thn (h1 pins s σ H {D with nx:=u D} I h) fun f W q=>?_)
 cases f with
 |next=>
  obtain⟨Z,H',Y,q⟩:=q;exact h2 pins W Z H' D Y q
 |ret v=>exact q
 |brk=>exact q
 |cont=>exact q
theorem ay(h1:PS X st t):PSs X [st] t:=by
 intro pins s σ H D I h;refine wpAny_execs_cons (thn (h1 pins s σ H D I h) fun f Z q=>?_)
 cases f with
 |next=>exact m7 q
 |ret v=>exact q
 |brk=>exact q
 |cont=>exact q
theorem Inv.quiet{pins:List (aa×Obj)}{σ:St}{H:Hp}{s:ak}(I:Inv X pins σ H s):interactive X.env=false:=by simp[interactive,I.ok.kind]
def tDrop(te:TE):TS:=fun D σ H=>te σ H fun _ H1=>D.nx σ H1
theorem d9(Y:PE X e te)(hs:uD e none pos.line X.env=pure false:=by rfl):PS X (.Expr e pos) (tDrop te):=by
 intro pins s σ H D I h;exact wpAny_Expr_any (thn (Y pins s σ H _ I h) fun v V ⟨x,H1,Z,r1,W⟩=>⟨σ,H1,Z,W⟩) I.quiet hs
def tRet(te:TE):TS:=fun D σ H=>te σ H D.rt
theorem bN(Y:PE X e te):PS X (.Return (some e) pos) (tRet te):=by
 intro pins s σ H D I h;exact wpAny_Return_some (thn (Y pins s σ H _ I h) fun v V ⟨x,H1,Z,r1,W⟩=>⟨x,σ,H1,Z,r1,W⟩)
def tIfS(c:TT)(t u:TS):TS:=fun D σ H=>c σ H fun b H1=>if b=true then t D σ H1 else u D σ H1
theorem cK{c:cN}{a b:List cT}{tc:TT}(hc:PT X c tc)(ha:PSs X a t)(hb:PSs X b u):PS X (.If c a b pos) (tIfS tc t u):=by
 intro pins s σ H D I h;refine wpAny_If (thn (hc pins s σ H _ I h) fun d Y ⟨H1,Z,W⟩=>?_)
 cases d with
 |true=>exact ha pins Y σ H1 D Z W
 |false=>exact hb pins Y σ H1 D Z W
def M3:TS:=fun _ _ _=>False
theorem xW{sts:List cT}:PSs X sts M3:=fun _ _ _ _ _ _ h=>h.elim
end
abbrev TG:=V->St->Hp->(St->Hp->Prop)->Prop
abbrev TGs:=List V->St->Hp->(St->Hp->Prop)->Prop
def PG(X:Cx)(Z:cN)(t:TG):Prop:=
 ∀(pins:List (aa×Obj)) (s:ak) (σ:St) (H:Hp) (v:V) (u:af) (Q:St->Hp->Prop),Inv X pins σ H s->RelV v u->t v σ H Q ->
  aX (bf X.prog X.w) X.A (yL Z X.env u) (fun _ s'=>∃Y H',Inv X pins Y H' s'/\Q Y H') X.xe s
def PGs(X:Cx)(Y:List cN)(t:TGs):Prop:=
 ∀(pins:List (aa×Obj)) (s:ak) (σ:St) (H:Hp) (vs:List V) (us:List af) (Q:St->Hp->Prop),Inv X pins σ H s->cX vs us->t vs σ H Q ->
  aX (bf X.prog X.w) X.A (assignInOrder ((lE Y X.env).map (·.2)) us) (fun _ s'=>∃Z H',Inv X pins Z H' s'/\Q Z H') X.xe s
abbrev M4:=V->V->V->Hp->(Hp->Prop)->Prop
def PSet(X:Cx)(t:M4):Prop:=
 ∀(pins:List (aa×Obj)) (s:ak) (σ:St) (H:Hp) (o i v:V) (Z Y u:af) (Q:Hp->Prop),Inv X pins σ H s->RelV o Z->RelV i Y->RelV v u->t o i v H Q ->
  aX (bf X.prog X.w) X.A (setItem Z Y u) (fun _ s'=>∃H',Inv X pins σ H' s'/\Q H') X.xe s
section
variable{X:Cx}{pos:Pos}
def Cb(i:Nat):TG:=fun v σ H Q=>Q (σ.set i (some v)) H
theorem dO{i:Nat}{x:Str}(W:X.N.Nodup)(hi:X.N[i]?=some x)(hx:Loc X.env.scope x)(Y:X.fn x=true\/X.env.scope.names.lookup x=some .local:=by first|exact .inl rfl|exact .inr rfl|assumption):PG X (.Name x pos) (Cb i):=by
 intro pins s σ H v u Q I r h;exact OV (sC I W hi hx r (fun s' Z=>{_,H,Z,h}) Y)
def gNil:TGs:=fun vs σ H Q=>vs=[]/\Q σ H
inductive Lg(t:TG)(u:TGs)(vs:List V)(σ:St)(H:Hp)(Q:St->Hp->Prop):Prop where
 |mk(v:V)(r:List V)(h:vs=v::r)(q:t v σ H fun σ' H'=>u r σ' H' Q):Lg t u vs σ H Q
def gCons(t:TG)(u:TGs):TGs:=fun vs σ H Q=>Lg t u vs σ H Q
theorem sI:PGs X [] gNil:=by
 intro pins s σ H vs us Q I r h;obtain⟨e,h⟩:=h;subst e
 cases r;exact assignInOrder_nil ⟨σ,H,I,h⟩
theorem jg{e:cN}{es:List cN}{t:TG}{u:TGs}(h1:PG X e t)(h2:PGs X es u)
  (hs:(lE (e::es) X.env).map (·.2)=yL e X.env::(lE es X.env).map (·.2):=by rfl):PGs X (e::es) (gCons t u):=by
 intro pins s σ H vs us Q I r h;obtain⟨v,O,e1,h⟩:=h;subst e1
 cases r with
 |cons r W=>
  rw[hs];refine assignInOrder_cons (thn (h1 pins s σ H _ _ _ I r h) fun _ V ⟨Z,H1,Y,U⟩=>?_);exact h2 pins V Z H1 _ _ Q Y W U
inductive GTup(K:ae)(n:Nat)(t:TGs)(v:V)(σ:St)(H:Hp)(Q:St->Hp->Prop):Prop where
 |mk(a:aa)(xs:List V)(h:v=.ref a)(s:SqT K H a xs)(l:xs.length=n)(q:t xs σ H Q):GTup K n t v σ H Q
def gTup(K:ae)(n:Nat)(t:TGs):TG:=fun v σ H Q=>GTup K n t v σ H Q
theorem vT{es:List cN}{k:Nat}{t:TGs}{n:Nat}(hc:X.calm=true)(h:PGs X es t)
  (W:(lE es X.env).length=n:=by rfl) (hst:(lE es X.env).findIdx? (·.1)=none:=by rfl):PG X (.Tuple es k pos) (gTup X.K n t):=by
 intro pins s σ H v u Q I r hw;obtain⟨a,xs,e1,hq,hl,hw⟩:=hw;subst e1
 cases r;obtain⟨V,Z,ht,U⟩:=I.tuple hq;refine assign_Tuple_tuple (I.ok.hd hc) ht (by simp[W,<- hl,Z.length]) hst fun h' hx=>?_;have Y:Inv X pins σ H {s with heap:=h'}:=I.kept (t':=s.toks) fun b o e=>hx b o (aR (aQ e)) e;exact h pins _ σ H xs _ Q Y (by simpa using Z) hw
def gSub(to Z:TE)(t:M4):TG:=fun v σ H Q=>to σ H fun o H1=>Z σ H1 fun i H2=>t o i v H2 fun Y=>Q σ Y
theorem tR{o i:cN}{to W:TE}{t:M4}(ho:PE X o to)(hi:PE X i W)(hs:PSet X t)
  (ha:∀v,yL (.Subscript o i pos) X.env v=(do
   let Z <- pZ [v] (fg o X.env)
   let Y <- pZ [v,Z] (fg i X.env)
   uC pos
   pZ [v,Z,Y] (setItem Z Y v)
   release [v,Z,Y] []):=by intro _;rfl):PG X (.Subscript o i pos) (gSub to W t):=by
 intro pins s σ H v u Q I r h;rw[ha];refine ax (e7 (thn (ho pins s σ H _ I h) fun Z J ⟨x,H1,V,r1,z⟩=>?_));refine ax (e7 (thn (hi pins J σ H1 _ V z) fun Y s2 ⟨y,H2,M,r2,O⟩=>?_));refine ax (Ee (ax (e7 (thn (hs pins s2 σ H2 x y v Z Y u _ M r1 r2 r O) fun _ s3 ⟨U,g,D⟩=>?_))));exact wpAny_release ⟨σ,U,g,D⟩
def Je(te:TE)(g:TG):TS:=fun D σ H=>te σ H fun x H1=>g x σ H1 D.nx
theorem qc{tg e:cN}{te:TE}{g:TG}(V:PE X e te)(Y:PG X tg g)(hs:swapsWithSole [tg] e pos.line X.env=pure false:=by rfl)(hw:swappedStores [tg] e X.env=pure none:=by rfl)
  (h1:(lE [tg] X.env).map (·.2)=[yL tg X.env]:=by rfl):PS X (.Assign [tg] e pos) (Je te g):=by
 intro pins s σ H D I h;refine wpAny_Assign_stores (thn (V pins s σ H _ I h) fun v W ⟨x,H1,Z,r1,U⟩=>?_) hs hw;rw[h1];exact thn (Y pins W σ H1 x v _ Z r1 U) fun _ s2 q=>q
theorem bh{i:Nat}{x:Str}{e:cN}{te:TE}{pos':Pos}(V:X.N.Nodup)(hi:X.N[i]?=some x)(hx:Loc X.env.scope x)(U:PE X e te)(hs:uD e (some (.Name x pos')) pos.line X.env=pure false:=by rfl)(Y:X.fn x=true\/X.env.scope.names.lookup x=some .local:=by first|exact .inl rfl|exact .inr rfl|assumption) :
  PS X (.Assign [.Name x pos'] e pos) (Je te (Cb i)):=by
 intro pins s σ H D I h;refine wpAny_Assign_Name (thn (U pins s σ H _ I h) fun v M ⟨y,H1,Z,r1,O⟩=>?_) hs;exact sC Z V hi hx r1 (fun s2 W=>{_,H1,W,O}) Y
end
section
variable{X:Cx}{pos:Pos}
def Fs(c:TT)(tb:TS):TS:=fun D σ H=>∃W:Nat->St->Hp->Prop,(∃m,W m σ H)/\∀m σ H,W m σ H ->
 c σ H fun b H1=>if b=true then ∃N:St->Hp->Prop,(∀Z H',N Z H'->∃Y,Y<m/\W Y Z H')/\tb {D with nx:=N,ct:=N,bk:=D.nx} σ H1 else D.nx σ H1
theorem vU{c:cN}{V:List cT}{tc:TT}{tb:TS}(hp:PassesOwn (bf X.prog X.w) X.A X.env X.xe)(hc:PT X c tc)(hb:PSs X V tb):PS X (.While c V [] pos) (Fs tc tb):=by
 intro pins s σ H D I h;obtain⟨W,⟨m0,w0⟩,turn⟩:=h;refine wpAny_While (codeAny_whileLoop (fun n s'=>∃O H',Inv X pins O H' s'/\W n O H') ?_ m0 ⟨σ,H,I,w0⟩);rintro n s1 ⟨Y,H1,I1,w1⟩;refine iT hp (thn (hc pins s1 Y H1 _ I1 (turn n Y H1 w1)) fun b s2 ⟨H2,I2,M⟩=>?_)
 cases b with
 |true=>
  obtain⟨N,hN,M⟩:=M;rw[if_pos rfl];refine iT hp (thn (hb pins s2 Y H2 _ I2 M) fun f s3 J=>?_)
  cases f with
  |next=>
   obtain⟨Z,U,z,n3⟩:=J;obtain⟨g,hm,t⟩:=hN Z U n3;exact⟨g,hm,Z,U,z,t⟩
  |cont=>
   obtain⟨Z,U,z,n3⟩:=J;obtain⟨g,hm,t⟩:=hN Z U n3;exact⟨g,hm,Z,U,z,t⟩
  |brk=>exact J
  |ret v=>exact J
 |false=>
  rw[if_neg aW];exact m7 ⟨Y,H2,I2,M⟩
end
structure It where
 go:Nat->Hp->Prop
 yld:Nat->Hp->V->Hp->Prop
 stop:Nat->Hp->Prop
def yM(X:Cx)(pins:List (aa×Obj))(H:Hp)(b:aa):Prop:=
 H b=none/\b≠X.env.locals/\b∉X.fs/\(b∈X.ex\/X.s₀.heap.objs.size<=b)/\(∀x c,X.env.cells.lookup x=some c->c≠b)/\∀p∈X.pn++pins,p.1≠b
theorem Inv.fpOk{X:Cx}{pins:List (aa×Obj)}{σ:St}{H H':Hp}{s:ak}{b:aa}(I:Inv X pins σ H s)(hb:s.heap.objs.size<=b)(Z:H' b=none):yM X pins H' b:=by
 refine{Z,qe (bD I.lt hb),I.nofs hb,.inr (dA I.sz hb),fun x c e z=>?_,fun p hp z=>?_}
 ·obtain⟨v,q⟩:=I.cell x c e;exact absurd (bD q.lt (by rw[z];exact hb)) (g9 _)
 ·exact absurd (bD (aQ (I.pin p hp).1) (by rw[z];exact hb)) (g9 _)
structure Ef(P:aN)(w:bL)(K:ae)(tg:cN)(J:It)(fp:List aa)(it:aa)(tn:Nat->cz->Prop):Prop where
 mem:it∈fp
 obj:∀i h,tn i h->∀b∈fp,∃o,h.get? b=some o/\∀v,o.data≠.cell v
 keep:∀i h h',tn i h->(∀b∈fp,∀o,h.get? b=some o->h'.get? b=some o)->tn i h'
 item:∀(X:Cx),X.prog=P->X.w=w->X.K=K->X.calm=true->∀(i:Nat) (pins:List (aa×Obj)) (s:ak) (σ:St) (H:Hp) (E:af->ak->Prop),Inv X pins σ H s->(∀b∈fp,yM X pins H b)->tn i s.heap->J.go i H ->
  aX (bf P w) X.A (pyNext (.ref it)) (fun r s1=>∃u,r=some u /\
   aX (bf P w) X.A (r9 tg (.ref it) u) (fun _ s2=>∃x H',Inv X pins σ H' s2/\RelV x u/\J.yld i H x H'/\tn (i+1) s2.heap/\∀b∈fp,H' b=none) E s1) E s
 done:∀(X:Cx),X.prog=P->X.w=w->X.K=K->X.calm=true->∀(i:Nat) (pins:List (aa×Obj)) (s:ak) (σ:St) (H:Hp) (E:af->ak->Prop),Inv X pins σ H s->(∀b∈fp,yM X pins H b)->tn i s.heap->J.stop i H ->
  aX (bf P w) X.A (pyNext (.ref it)) (fun r s1=>r=none/\Inv X pins σ H s1) E s
 self:∀(A:bZ) (i:Nat) (s:ak) (Q:af->ak->Prop) (E:af->ak->Prop),tn i s.heap->Q (.ref it) s->aX (bf P w) A (pyIter (.ref it)) Q E s
abbrev TI:=St->Hp->(It->Hp->Prop)->Prop
def PIE(X:Cx)(pins:List (aa×Obj))(σ:St)(tg:cN)(R:It->Hp->Prop)(Z:af)(s2:ak):Prop:=
 ∃(it:aa) (fp:List aa) (Y:Nat->cz->Prop) (J:It) (H':Hp),Z=.ref it/\Inv X pins σ H' s2/\Ef X.prog X.w X.K tg J fp it Y/\Y 0 s2.heap/\(∀b∈fp,yM X pins H' b)/\R J H'
def PI(X:Cx)(tg Z:cN)(W:TI):Prop:=
 ∀(pins:List (aa×Obj)) (s:ak) (σ:St) (H:Hp) (R:It->Hp->Prop),Inv X pins σ H s->W σ H R ->
  aX (bf X.prog X.w) X.A (fg Z X.env) (fun v Y=>aX (bf X.prog X.w) X.A (pyIter v) (PIE X pins σ tg R) X.xe Y) X.xe s
theorem Ft{M:Jb}{A:bZ}{E:af->ak->Prop}{s:ak}{tg:cN}{it:aa}{u:af}{o:Obj}{n:String}{vs:Array af}{Q:Unit->ak->Prop}(ho:s.heap.get? it=some o)(hc:o.cls=.type n)(hd:o.data=.fields vs)
  (Y:["enumerate","zip","dict_itemiterator","dict_reverseitemiterator","odict_iterator","itertools.zip_longest","itertools.pairwise"].contains n=false) (Z:Q () s):aX M A (r9 tg (.ref it) u) Q E s:=by
 unfold r9
 cases tg<;>first
  |exact bK Z
  |(cases u<;>first
    |exact bK Z
    |(refine ax (wpAny_load ho ?_)
      rw[hc,hd];show aX M A (if (["enumerate","zip","dict_itemiterator","dict_reverseitemiterator","odict_iterator","itertools.zip_longest","itertools.pairwise"].contains n&&vs[0]?==some (tS _))=true then _ else _) Q E s;rw[if_neg (by intro h;rw[Y,Bool.false_and]at h;cases h)];exact bK Z))
def Itl(K:ae)(a:aa):It:=
 ⟨fun i H=>∃xs x,SqL K H a xs/\xs[i]?=some x,fun i H x H'=>H'=H/\∀xs,SqL K H a xs->xs[i]?=some x,fun i H=>∃xs,SqL K H a xs/\xs.length<=i⟩
def Itt(K:ae)(a:aa):It:=
 ⟨fun i H=>∃xs x,SqT K H a xs/\xs[i]?=some x,fun i H x H'=>H'=H/\∀xs,SqT K H a xs->xs[i]?=some x,fun i H=>∃xs,SqT K H a xs/\xs.length<=i⟩
def Itr(lo:Int)(n:Nat):It:=⟨fun i _=>i<n,fun i H x H'=>H'=H/\x=.int (lo+i),fun i _=>n<=i⟩
theorem Eg{P:aN}{w:bL}{K:ae}{tg:cN}(a it:aa):Ef P w K tg (Itl K a) [it] it (fun i h=>h.IsListIter it a i) where
 mem:=by simp
 obj:=fun i h st b hb=>by
  have e:b=it:=by simpa using hb
  subst e;obtain⟨o,e,c,d⟩:=st;exact{o,e,fun v z=>by rw[d]at z;cases z}
 keep:=fun i h h' st k=>st.at fun o e=>k it (by simp) o e
 item:=by
  intro X J hw M hc i pins s σ H E I Y st O;subst J hw M;obtain⟨xs,x,hq,hx⟩:=O;obtain⟨g,D,p,hz⟩:=I.list hq;obtain⟨u,hu,ru⟩:=D.get hx;obtain⟨V,f1,f2,W,t,U⟩:=Y it (by simp);refine Fu st p.isList (x:=u) (by simpa using hu) fun h' Z sb=>?_;have I1:Inv X pins σ H {s with heap:=h'}:=I.turned (t':=s.toks) (fun b o hb e=>(sb.2 b hb).trans e) V f1 W t U;obtain⟨o,e,c,d⟩:=id Z;exact{u,rfl,Ft (s:={s with heap:=h'}) e c d (by decide) {x,H,I1,ru,{rfl,fun ys hy=>by rw[I.list_inj hy hq];exact hx},Z,fun b hb=>(Y b hb).1}}
 done:=by
  intro X J hw M hc i pins s σ H E I Y st O;subst J hw M;obtain⟨xs,hq,hx⟩:=O;obtain⟨g,D,p,hz⟩:=I.list hq;obtain⟨V,f1,f2,W,t,U⟩:=Y it (by simp);have hl:=D.length;exact IR (I.ok.hd hc) st p.isList (by simp;omega) fun h' eb=>{rfl,I.turned (t':=s.toks) (fun b o hb e=>eb b o hb e) V f1 W t U}
 self:=fun _ _ _ _ _ st h=>wpAny_pyIter_listiter st h
theorem Bc{P:aN}{w:bL}{K:ae}{tg:cN}(a it:aa):Ef P w K tg (Itt K a) [it] it (fun i h=>h.IsTupleIter it a i) where
 mem:=by simp
 obj:=fun i h st b hb=>by
  have e:b=it:=by simpa using hb
  subst e;obtain⟨o,e,c,d⟩:=st;exact{o,e,fun v z=>by rw[d]at z;cases z}
 keep:=fun i h h' st k=>st.at fun o e=>k it (by simp) o e
 item:=by
  intro X D hw J hc i pins s σ H E I W st M;subst D hw J;obtain⟨xs,x,hq,hx⟩:=M;obtain⟨Z,t,p,hz⟩:=I.tuple hq;obtain⟨u,hu,ru⟩:=t.get hx;obtain⟨U,f1,f2,V,g,O⟩:=W it (by simp);refine wpAny_pyNext_tuple_item st (show s.heap.IsTuple a Z.toArray from p) (x:=u) (by simpa using hu) fun h' Y sb=>?_;have I1:Inv X pins σ H {s with heap:=h'}:=I.turned (t':=s.toks) (fun b o hb e=>(sb.2 b hb).trans e) U f1 V g O;obtain⟨o,e,c,d⟩:=id Y;exact{u,rfl,Ft (s:={s with heap:=h'}) e c d (by decide) {x,H,I1,ru,{rfl,fun ys hy=>by rw[I.tuple_inj hy hq];exact hx},Y,fun b hb=>(W b hb).1}}
 done:=by
  intro X D hw J hc i pins s σ H E I W st M;subst D hw J;obtain⟨xs,hq,hx⟩:=M;obtain⟨Z,t,p,hz⟩:=I.tuple hq;obtain⟨U,f1,f2,V,g,O⟩:=W it (by simp);have hl:=t.length;exact wpAny_pyNext_tuple_end (I.ok.hd hc) st (show s.heap.IsTuple a Z.toArray from p) (by simp;omega) fun h' eb=>{rfl,I.turned (t':=s.toks) (fun b o hb e=>eb b o hb e) U f1 V g O}
 self:=fun _ _ _ _ _ st h=>wpAny_pyIter_tupleiter st h
theorem Be{P:aN}{w:bL}{K:ae}{tg:cN}(it:aa)(lo:Int)(n:Nat):Ef P w K tg (Itr lo n) [it] it (fun i h=>IsRangeIter h it (lo+(i:Nat)*1) ((n:Int)-(i:Nat)) 1) where
 mem:=by simp
 obj:=fun i h st b hb=>by
  have e:b=it:=by simpa using hb
  subst e;exact⟨_,st,fun v z=>by
   have z':Data.fields _=Data.cell v:=z
   cases z'⟩
 keep:=fun i h h' st k=>k it (by simp) _ st
 item:=by
  intro X D hw J hc i pins s σ H E I Y st M;subst D hw J;obtain⟨U,f1,f2,V,g,O⟩:=Y it (by simp);have W:=Walks.range (prog:=X.prog) (w:=X.w) (I.ok.hd hc) it lo 1 n;refine W.item i s _ _ M st fun v h' tk hv Z kk=>?_;obtain⟨t,rfl⟩:=hv;have I1:Inv X pins σ H {s with heap:=h',toks:=tk}:=I.turned (fun b o hb e=>kk b o (by simpa using hb) e) U f1 V g O;refine{_,rfl,Ft (s:={s with heap:=h',toks:=tk}) (n:="range_iterator") Z rfl rfl (by decide) {.int (lo+i),H,I1,{t,?_},⟨rfl,rfl⟩,Z,fun b hb=>(Y b hb).1}};rw[Int.mul_one]
 done:=by
  intro X D hw J hc i pins s σ H E I Y st M;subst D hw J;obtain⟨U,f1,f2,V,g,O⟩:=Y it (by simp);exact wpAny_pyNext_range_end (I.ok.hd hc) st (by have:n<=i:=M;omega) fun h' eb=>{rfl,I.turned (t':=s.toks) (fun b o hb e=>eb b o hb e) U f1 V g O}
 self:=fun _ _ _ _ _ st h=>wpAny_pyIter_rangeiter st h
section
variable{X:Cx}{tg:cN}
def Fv(K:ae)(tl:TE):TI:=fun σ H R=>tl σ H fun x H1=>∃a,x=.ref a/\(∃xs,SqL K H1 a xs)/\R (Itl K a) H1
def iTup(K:ae)(tl:TE):TI:=fun σ H R=>tl σ H fun x H1=>∃a,x=.ref a/\(∃xs,SqT K H1 a xs)/\R (Itt K a) H1
theorem iU{l:cN}{tl:TE}(hl:PE X l tl):PI X tg l (Fv X.K tl):=by
 intro pins s σ H R I h;refine thn (hl pins s σ H _ I h) fun v Y ⟨x,H1,Z,r1,W⟩=>?_;obtain⟨a,e,⟨xs,hq⟩,q⟩:=W;subst e
 cases r1;obtain⟨V,U,p,O⟩:=Z.list hq;refine OW p.isList ?_;refine{Y.heap.objs.size,[Y.heap.objs.size],_,_,H1,rfl,Z.kept (t':=Y.toks) fun b o e=>aJ _ e,Eg a _,{_,cy _ rfl,rfl,rfl},fun b hb=>?_,q};have e:b=Y.heap.objs.size:=by simpa using hb
 subst e;exact Z.fpOk (aD _) (Z.hok.fresh (aD _))
theorem M6{l:cN}{tl:TE}(hl:PE X l tl):PI X tg l (iTup X.K tl):=by
 intro pins s σ H R I h;refine thn (hl pins s σ H _ I h) fun v Z ⟨x,H1,Y,r1,V⟩=>?_;obtain⟨a,e,⟨xs,hq⟩,q⟩:=V;subst e
 cases r1;obtain⟨W,U,p,O⟩:=Y.tuple hq;refine wpAny_pyIter_tuple (show Z.heap.IsTuple a W.toArray from p) ?_;refine{Z.heap.objs.size,[Z.heap.objs.size],_,_,H1,rfl,Y.kept (t':=Z.toks) fun b o e=>aJ _ e,Bc a _,{_,cy _ rfl,rfl,rfl},fun b hb=>?_,q};have e:b=Z.heap.objs.size:=by simpa using hb
 subst e;exact Y.fpOk (aD _) (Y.hok.fresh (aD _))
theorem Fw{pins:List (aa×Obj)}{σ:St}{H:Hp}{s:ak}{R:It->Hp->Prop}{E:af->ak->Prop}{lo hi:Int}{t u v:Tok}{tk:Nat}(I:Inv X pins σ H s)(h1:-(2^62)<=lo)(h2:lo<2^62)(V:-(2^62)<=hi)(Y:hi<2^62)
  (q:R (Itr lo (hi-lo).toNat) H):aX (bf X.prog X.w) X.A (pyIter (.ref s.heap.objs.size)) (PIE X pins σ tg R) E {s with heap:=s.heap.push {cls:=.type "range",data:=.fields #[.int lo t,.int hi u,.int 1 v]},toks:=tk}:=by
 refine wpAny_pyIter_range (Lh ..) (small_one h1 h2 V Y) ?_;have Z:Inv X pins σ H {s with heap:=s.heap.push {cls:=.type "range",data:=.fields #[.int lo t,.int hi u,.int 1 v]},toks:=tk}:=I.kept fun b o e=>aJ _ e;refine⟨(s.heap.push {cls:=.type "range",data:=.fields #[.int lo t,.int hi u,.int 1 v]}).objs.size,[(s.heap.push {cls:=.type "range",data:=.fields #[.int lo t,.int hi u,.int 1 v]}).objs.size],_,_,H,rfl,
  Z.kept (t':=tk) fun b o e=>aJ _ e,Be _ lo (hi-lo).toNat,?_,fun b hb=>?_,q⟩
 ·have e1:lo+((0:Nat):Int)*1=lo:=by simp
  have W:(((hi-lo).toNat:Nat):Int)-((0:Nat):Int)=c5 lo hi 1:=by rw[rangeSize_one];split<;>omega
  show IsRangeIter _ _ (lo+((0:Nat):Int)*1) ((((hi-lo).toNat:Nat):Int)-((0:Nat):Int)) 1;rw[e1,W];exact cy _ rfl
 ·have e:b=(s.heap.push {cls:=.type "range",data:=.fields #[.int lo t,.int hi u,.int 1 v]}).objs.size:=by simpa using hb
  subst e;exact Z.fpOk (aD _) (Z.hok.fresh (aD _))
def Fx(ta:TA):TI:=fun σ H R=>ta σ H fun vs H1=>∃j:Int,vs=[.int j]/\-(2^62)<=j/\j<2^62/\R (Itr 0 j.toNat) H1
theorem iV{a:cN}{ta:TA}{p pos:Pos}(U:Gl X "range")(hm:X.mg "range"=none)(ha:PA X [a] ta)(hs:cu [a] X.env=[(false,fg a X.env)]:=by rfl):PI X tg (.Call (.Name "range" p) [a] [] pos) (Fx ta):=by
 intro pins s σ H R I h;refine Call_ (p8 I U hm boot_range (gk (thn (ha pos pins s σ H _ I h) fun us O ⟨vs,H1,Y,r1,Z⟩=>?_) hs rfl));obtain⟨j,e,Z,V,q⟩:=Z;subst e
 cases r1 with
 |cons r W=>
  cases W;obtain⟨t,rfl⟩:=r;exact call_range_1 (Fw Y (by omega) (by omega) Z V (by simpa using q))
def tFor(U:TI)(g:TG)(tb:TS):TS:=fun D σ H=>U σ H fun J H1=>∃W:Nat->Nat->St->Hp->Prop,(∃m,W 0 m σ H1)/\∀i m σ H,W i m σ H ->
 (J.stop i H/\D.nx σ H)\/(J.go i H/\∃N:St->Hp->Prop,(∀Z H',N Z H'->∃V,V<m/\W (i+1) V Z H')/\∀x H',J.yld i H x H'->g x σ H' fun Y H2=>tb {D with nx:=N,ct:=N,bk:=D.nx} Y H2)
def tT(fp:List aa)(h:cz):List (aa×Obj):=fp.filterMap fun b=>(h.get? b).map fun o=>(b,o)
theorem oN{fp:List aa}{h:cz}{b:aa}{o:Obj}(hb:b∈fp)(e:h.get? b=some o):(b,o)∈tT fp h:=tL.mpr {b,hb,by rw[e];rfl}
theorem Eh{fp:List aa}{h:cz}{p:aa×Obj}(hp:p∈tT fp h):p.1∈fp/\h.get? p.1=some p.2:=by
 obtain⟨b,hb,e⟩:=tL.mp hp
 cases q:h.get? b with
 |none=>rw[q]at e;cases e
 |some o=>
  rw[q]at e;have Z:(b,o)=p:=dM e;subst Z;exact⟨hb,q⟩
theorem Inv.pinned{pins:List (aa×Obj)}{σ:St}{H:Hp}{s:ak}{fp:List aa}(I:Inv X pins σ H s)(W:∀b∈fp,yM X pins H b)(ho:∀b∈fp,∃o,s.heap.get? b=some o/\∀v,o.data≠.cell v):Inv X (pins++tT fp s.heap) σ H s:=
 I.pins_of fun p hp=>(bY.mp hp).elim (fun z=>I.pin p (bj _ z)) fun z=>by
  obtain⟨hb,e⟩:=Eh z;obtain⟨V,f1,Y,_⟩:=W p.1 hb;obtain⟨o,Z,d⟩:=ho p.1 hb;rw[e]at Z;cases Z;exact⟨e,V,f1,Y,d⟩
theorem Inv.unpinned{pins pl:List (aa×Obj)}{σ:St}{H:Hp}{s:ak}(I:Inv X (pins++pl) σ H s):Inv X pins σ H s:=I.pins_of fun p hp=>I.pin p (bj _ (gU _ hp))
theorem jo{Y:cN}{t:List cT}{wi:TI}{g:TG}{tb:TS}{pos:Pos}(hp:PassesOwn (bf X.prog X.w) X.A X.env X.xe)(hc:X.calm=true)(hi:PI X tg Y wi)(hg:PG X tg g)(hb:PSs X t tb)
  (hs:∀x,p0 Y X.env x=pure x:=by intro _;rfl):PS X (.For tg Y t [] pos) (tFor wi g tb):=by
 intro pins s σ H D I h;refine wpAny_For (thn (hi pins s σ H _ I h) fun v s1 h1=>thn h1 fun dz s2 h2=>?_) hs;obtain⟨it,fp,tn,J,H2,e,I2,T,dG,f2,W,⟨m0,w0⟩,turn⟩:=h2;subst e
 -- what stays true of the iterator's objects through the loop
 have M:∀{H':Hp},(∀b∈fp,H' b=none)->∀b∈fp,yM X pins H' b:=fun hn b hb=>{hn b hb,(f2 b hb).2};refine codeAny_forLoop_any (fun n s'=>∃i V H',Inv X pins V H' s'/\tn i s'.heap/\(∀b∈fp,H' b=none)/\W i n V H') ?_ m0 {0,σ,H2,I2,dG,fun b hb=>(f2 b hb).1,w0};rintro n s3 ⟨i,O,H3,I3,ec,eb,w3⟩
 rcases turn i n O H3 w3 with⟨stop,qn⟩|⟨go,N,hN,step⟩
 ·refine iT hp (thn (T.done X rfl rfl rfl hc i pins s3 O H3 X.xe I3 (M eb) ec stop) fun r s4 ⟨hr,I4⟩=>?_);subst hr;exact m7 ⟨O,H3,I4,qn⟩
 ·refine iT hp (thn (T.item X rfl rfl rfl hc i pins s3 O H3 X.xe I3 (M eb) ec go) fun r s4 ⟨u,hr,h4⟩=>?_);subst hr;refine iT hp (thn h4 fun _ s5 ⟨x,H5,I5,r5,y5,ed,dV⟩=>?_);have ea:=I5.pinned (M dV) (T.obj _ _ ed);refine iT hp (thn (hg _ s5 O H5 x u _ ea r5 (step x H5 y5)) fun _ s6 ⟨dL,H6,I6,q6⟩=>?_);refine iT hp (thn (hb _ s6 dL H6 _ I6 q6) fun f s7 q7=>?_);have again:∀{Z:St} {z:Hp},Inv X (pins++tT fp s5.heap) Z z s7->N Z z->∃m,m<n/\∃i V H',Inv X pins V H' s7/\tn i s7.heap/\(∀b∈fp,H' b=none)/\W i m V H':=fun {Z z} U n7=>by
   obtain⟨m',hm,w7⟩:=hN Z z n7;refine{m',hm,i+1,Z,z,U.unpinned,T.keep _ _ _ ed fun b hb o e=>(U.pin (b,o) (bj _ (bj _ (oN hb e)))).1,fun b hb=>?_,w7};obtain⟨o,e,d⟩:=T.obj _ _ ed b hb;exact (U.pin (b,o) (bj _ (bj _ (oN hb e)))).2.1
  cases f with
  |next=>obtain⟨Z,z,U,n7⟩:=q7;exact again U n7
  |cont=>obtain⟨Z,z,U,n7⟩:=q7;exact again U n7
  |brk=>obtain⟨Z,z,U,q7⟩:=q7;exact⟨Z,z,U.unpinned,q7⟩
  |ret v=>obtain⟨x7,Z,z,U,r7,q7⟩:=q7;exact⟨x7,Z,z,U.unpinned,r7,q7⟩
end
theorem j7{K:ae}{a:aa}{xs:List V}{g:TG}{tb:TS}{D:m5}{σ:St}{H:Hp}(Z:Nat->St->Hp->Prop)(h0:Z 0 σ H)(hl:∀i σ H,i<=xs.length->Z i σ H->SqL K H a xs)
  (hs:∀i x σ H,xs[i]?=some x->Z i σ H->g x σ H fun U H2=>tb {D with nx:=Z (i+1),ct:=Z (i+1),bk:=D.nx} U H2) (hd:∀σ H,Z xs.length σ H->D.nx σ H) :
  ∃W:Nat->Nat->St->Hp->Prop,(∃m,W 0 m σ H)/\∀i m σ H,W i m σ H ->
   ((Itl K a).stop i H/\D.nx σ H)\/((Itl K a).go i H/\∃N:St->Hp->Prop,(∀Y H',N Y H'->∃M,M<m/\W (i+1) M Y H')/\∀x H',(Itl K a).yld i H x H'->g x σ H' fun U H2=>tb {D with nx:=N,ct:=N,bk:=D.nx} U H2):=by
 refine{fun i m σ H=>m=xs.length-i/\i<=xs.length/\Z i σ H,{xs.length,by simp,bU _,h0},?_};rintro i m σ H ⟨rfl,hi,p⟩;have q:=hl i σ H hi p
 by_cases O:i<xs.length
 ·refine .inr {{xs,xs[i],q,by simp[O]},Z (i+1),fun Y H' J=>{xs.length-(i+1),by omega,rfl,O,J},fun x H' y=>?_};obtain⟨e,y⟩:=y;subst e;exact hs i x σ _ (y xs q) p
 ·have e:i=xs.length:=by omega
  subst e;exact .inl {{xs,q,aD _},hd σ H p}
theorem nI{lo:Int}{n:Nat}{g:TG}{tb:TS}{D:m5}{σ:St}{H:Hp}(Z:Nat->St->Hp->Prop)(h0:Z 0 σ H)
  (hs:∀i σ H,i<n->Z i σ H->g (.int (lo+i)) σ H fun U H2=>tb {D with nx:=Z (i+1),ct:=Z (i+1),bk:=D.nx} U H2) (hd:∀σ H,Z n σ H->D.nx σ H) :
  ∃W:Nat->Nat->St->Hp->Prop,(∃m,W 0 m σ H)/\∀i m σ H,W i m σ H ->
   ((Itr lo n).stop i H/\D.nx σ H)\/((Itr lo n).go i H/\∃N:St->Hp->Prop,(∀V H',N V H'->∃O,O<m/\W (i+1) O V H')/\∀x H',(Itr lo n).yld i H x H'->g x σ H' fun U H2=>tb {D with nx:=N,ct:=N,bk:=D.nx} U H2):=by
 refine{fun i m σ H=>m=n-i/\i<=n/\Z i σ H,{n,by simp,bU _,h0},?_};rintro i m σ H ⟨rfl,hi,p⟩
 by_cases Y:i<n
 ·refine .inr {Y,Z (i+1),fun V H' M=>{n-(i+1),by omega,rfl,Y,M},fun x H' y=>?_};obtain⟨e,y⟩:=y;subst e y;exact hs i σ _ Y p
 ·have e:i=n:=by omega
  subst e;exact .inl {aD _,hd σ H p}
theorem Aa{c:TT}{tb:TS}{D:m5}{σ:St}{H:Hp}(Y:St->Hp->Prop)(μ:St->Hp->Nat)(h0:Y σ H)
  (hs:∀σ H,Y σ H->c σ H fun b H1=>if b=true then tb {D with nx:=fun Z H'=>Y Z H'/\μ Z H'<μ σ H,ct:=fun Z H'=>Y Z H'/\μ Z H'<μ σ H,bk:=D.nx} σ H1 else D.nx σ H1)
  (mono:∀σ H Q W,(∀b H1,Q b H1->W b H1)->c σ H Q->c σ H W):Fs c tb D σ H:=by
 refine{fun m σ H=>m=μ σ H/\Y σ H,{_,rfl,h0},?_};rintro m σ H ⟨rfl,p⟩;refine mono σ H _ _ (fun b H1 q=>?_) (hs σ H p)
 cases b with
 |true=>exact{_,fun Z H' ⟨V,l⟩=>{_,l,rfl,V},q}
 |false=>exact q
abbrev R2:=V->V->Hp->VK->Prop
def OpR(X:Cx)(f:af->af->Sem af)(r:R2):Prop:=
 ∀(pins:List (aa×Obj)) (s:ak) (σ:St) (H:Hp) (x y:V) (v u:af) (Q:VK),Inv X pins σ H s->RelV x v->RelV y u->r x y H Q ->
  aX (bf X.prog X.w) X.A (f v u) (EP X pins σ Q) X.xe s
def UnR(X:Cx)(f:af->Sem af)(r:V->Hp->VK->Prop):Prop:=
 ∀(pins:List (aa×Obj)) (s:ak) (σ:St) (H:Hp) (x:V) (v:af) (Q:VK),Inv X pins σ H s->RelV x v->r x H Q ->
  aX (bf X.prog X.w) X.A (f v) (EP X pins σ Q) X.xe s
def lF(X:Cx)(f:af)(r:List V->Hp->VK->Prop):Prop:=
 ∀(pins:List (aa×Obj)) (s:ak) (σ:St) (H:Hp) (xs:List V) (us:List af) (Q:VK),Inv X pins σ H s->cX xs us->r xs H Q ->
  aX (bf X.prog X.w) X.A (xu f us) (EP X pins σ Q) X.xe s
def TruR(X:Cx)(r:V->Hp->(Bool->Hp->Prop)->Prop):Prop:=
 ∀(pins:List (aa×Obj)) (s:ak) (σ:St) (H:Hp) (x:V) (v:af) (Q:Bool->Hp->Prop),Inv X pins σ H s->RelV x v->r x H Q ->
  aX (bf X.prog X.w) X.A (truthy v) (TP X pins σ Q) X.xe s
def tOp(r:R2)(ta tb:TE):TE:=fun σ H Q=>ta σ H fun x H1=>tb σ H1 fun y H2=>r x y H2 Q
def tUn(r:V->Hp->VK->Prop)(ta:TE):TE:=fun σ H Q=>ta σ H fun x H1=>r x H1 Q
inductive RI(C:Int->Int->Prop)(g:Int->Int->V)(x y:V)(H:Hp)(Q:VK):Prop where
 |mk(i j:Int)(hx:x=.int i)(hy:y=.int j)(c:C i j)(q:Q (g i j) H):RI C g x y H Q
def rI(C:Int->Int->Prop)(g:Int->Int->V):R2:=fun x y H Q=>RI C g x y H Q
inductive RI0(g:Int->Int->V)(x y:V)(H:Hp)(Q:VK):Prop where
 |mk(i j:Int)(hx:x=.int i)(hy:y=.int j)(q:Q (g i j) H):RI0 g x y H Q
def rI0(g:Int->Int->V):R2:=fun x y H Q=>RI0 g x y H Q
inductive RU(g:Int->V)(x:V)(H:Hp)(Q:VK):Prop where
 |mk(i:Int)(hx:x=.int i)(q:Q (g i) H):RU g x H Q
def rU(g:Int->V):V->Hp->VK->Prop:=fun x H Q=>RU g x H Q
section
variable{X:Cx}{a b c:cN}{ta tb tc:TE}{pos:Pos}
theorem M7(ha:PE X a ta)(hb:PE X b tb){pins:List (aa×Obj)}{s:ak}{σ:St}{H:Hp}{R:V->V->Hp->Prop}(I:Inv X pins σ H s)
  (h:ta σ H fun x H1=>tb σ H1 fun y H2=>R x y H2) {Q:af->ak->Prop} {f:af->af->Sem af}
  (U:∀v u s2 x y H2,Inv X pins σ H2 s2->RelV x v->RelV y u->R x y H2->aX (bf X.prog X.w) X.A (f v u) Q X.xe s2) :
  aX (bf X.prog X.w) X.A (fg a X.env) (fun v Y=>aX (bf X.prog X.w) X.A (fg b X.env) (fun u Z=>aX (bf X.prog X.w) X.A (f v u) Q X.xe Z) X.xe Y) X.xe s:=by
 refine thn (ha pins s σ H _ I h) fun v J ⟨x,H1,W,r1,D⟩=>?_;refine thn (hb pins J σ H1 _ W D) fun u s2 ⟨y,H2,M,r2,O⟩=>?_;exact U v u s2 x y H2 M r1 r2 O
theorem cV{op:Jf}{r:R2}(ho:OpR X (iE op) r)(ha:PE X a ta)(hb:PE X b tb):PE X (.BinOp a op b pos) (tOp r ta tb):=by
 intro pins s σ H Q I h;exact wpAny_BinOp (M7 ha hb I h fun v u s2 x y H2 Y Z W q=>ho pins s2 σ H2 x y v u Q Y Z W q)
theorem Fy{op:UnaryOp}{r:V->Hp->VK->Prop}(ho:UnR X (unaryOp op) r)(ha:PE X a ta):PE X (.UnaryOp op a pos) (tUn r ta):=by
 intro pins s σ H Q I h;exact UnaryOp_ (thn (ha pins s σ H _ I h) fun v Y ⟨x,H1,Z,r1,W⟩=>ho pins Y σ H1 x v Q Z r1 W)
theorem opI{f:af->af->Sem af}{C:Int->Int->Prop}{g:Int->Int->Int}
  (Jg:∀(i j:Int) (t u:Tok) (s:ak) (Q:af->ak->Prop) (E:af->ak->Prop),C i j->Q (.int (g i j) s.toks) {s with toks:=s.toks+1}->aX (bf X.prog X.w) X.A (f (.int i t) (.int j u)) Q E s) :
  OpR X f (rI C fun i j=>.int (g i j)):=by
 intro pins s σ H x y v u Q I Z Y h;obtain⟨i,j,rfl,rfl,hc,q⟩:=h;obtain⟨t,rfl⟩:=Z;obtain⟨t',rfl⟩:=Y;exact Jg i j t t' s _ _ hc {.int (g i j),H,I.tok _,{_,rfl},q}
theorem opI0{f:af->af->Sem af}{g:Int->Int->Int}
  (Jg:∀(i j:Int) (t u:Tok) (s:ak) (Q:af->ak->Prop) (E:af->ak->Prop),Q (.int (g i j) s.toks) {s with toks:=s.toks+1}->aX (bf X.prog X.w) X.A (f (.int i t) (.int j u)) Q E s) :
  OpR X f (rI0 fun i j=>.int (g i j)):=by
 intro pins s σ H x y v u Q I Z Y h;obtain⟨i,j,rfl,rfl,q⟩:=h;obtain⟨t,rfl⟩:=Z;obtain⟨t',rfl⟩:=Y;exact Jg i j t t' s _ _ {.int (g i j),H,I.tok _,{_,rfl},q}
theorem Jh{f:af->af->Sem af}{g:Int->Int->Bool}
  (Jg:∀(i j:Int) (t u:Tok) (s:ak) (Q:af->ak->Prop) (E:af->ak->Prop),Q (.bool (g i j)) s->aX (bf X.prog X.w) X.A (f (.int i t) (.int j u)) Q E s) :
  OpR X f (rI0 fun i j=>.bl (g i j)):=by
 intro pins s σ H x y v u Q I Z Y h;obtain⟨i,j,rfl,rfl,q⟩:=h;obtain⟨t,rfl⟩:=Z;obtain⟨t',rfl⟩:=Y;exact Jg i j t t' s _ _ {.bl (g i j),H,I,rfl,q}
def CDiv(i j:Int):Prop:=0<j/\j<1073741824
def Ei(i j:Int):Prop:=0<=j/\j<=1000000/\i.natAbs<2^64
def M8(i j:Int):Prop:=(-(2^64)<i/\i<2^64)\/(-(2^64)<j/\j<2^64)
theorem M8.ok{i j:Int}(h:M8 i j):IntMulOk i j:=by
 rcases h with⟨h1,h2⟩|⟨h1,h2⟩
 ·exact .of_left (intBits_le_64 h1 h2)
 ·exact .of_right (intBits_le_64 h1 h2)
theorem gP:OpR X (iE .Add) (rI0 fun i j=>.int (i+j)):=opI0 fun _ _ _ _ _ _ _ q=>add_int q
theorem jS:OpR X (iE .Sub) (rI0 fun i j=>.int (i-j)):=opI0 fun _ _ _ _ _ _ _ q=>sub_int q
theorem rR:OpR X (iE .Mult) (rI M8 fun i j=>.int (i*j)):=opI fun _ _ _ _ _ _ _ hc q=>mul_int q hc.ok
theorem Ji:OpR X (iE .FloorDiv) (rI CDiv fun i j=>.int (i/j)):=opI fun i j _ _ _ _ _ hc q=>by
 have h1:(0:Int)<j:=hc.1;have h2:j<1073741824:=hc.2;exact Fz (by omega) (by rw[yN i (by omega)];exact q) (.inl (yO (by omega)))
theorem rS:OpR X (iE .Mod) (rI (fun _ j=>0<j) fun i j=>.int (i%j)):=opI fun i j _ _ _ _ _ hc q=>by
 have h1:(0:Int)<j:=hc;exact mod_int' (by omega) (by rw[Int.fmod_eq_emod_of_nonneg i (by omega)];exact q)
theorem Jj:OpR X (iE .Mod) (rI (fun _ j=>j≠0) fun i j=>.int (i.fmod j)):=opI fun _ _ _ _ _ _ _ hc q=>mod_int' hc q
theorem tU:OpR X (iE .Pow) (rI Ei fun i j=>.int (i^j.toNat)):=opI fun _ _ _ _ _ _ _ hc q=>pow_int_small hc.1 hc.2.1 hc.2.2 q
theorem unI{f:af->Sem af}{g:Int->Int}
  (Jg:∀(i:Int) (t:Tok) (s:ak) (Q:af->ak->Prop) (E:af->ak->Prop),Q (.int (g i) s.toks) {s with toks:=s.toks+1}->aX (bf X.prog X.w) X.A (f (.int i t)) Q E s) :
  UnR X f (rU fun i=>.int (g i)):=by
 intro pins s σ H x v Q I Z h;obtain⟨i,rfl,q⟩:=h;obtain⟨t,rfl⟩:=Z;exact Jg i t s _ _ {.int (g i),H,I.tok _,{_,rfl},q}
theorem Bf:UnR X (unaryOp .USub) (rU fun i=>.int (-i)):=unI fun _ _ _ _ _ q=>neg_int q
end
def scal:V->V->Bool
 |.non,.non=>true|.non,.int _=>true|.int _,.non=>true|.non,.bl _=>true|.bl _,.non=>true|.non,.str _=>true|.str _,.non=>true
 |.int _,.int _=>true|.bl _,.bl _=>true|.str _,.str _=>true|.byt _,.byt _=>true
 |.int _,.str _=>true|.str _,.int _=>true|.bl _,.str _=>true|.str _,.bl _=>true
 |_,_=>false
def rEq:R2:=fun x y H Q=>scal x y=true/\Q (.bl (decide (x=y))) H
def rNe:R2:=fun x y H Q=>scal x y=true/\Q (.bl (!decide (x=y))) H
theorem Cc{i j:Int}:decide (V.int i=V.int j)=(i==j):=by
 rw[qf];simp
theorem FA{i j:Bool}:decide (V.bl i=V.bl j)=(i==j):=by
 rw[qf];simp
theorem Cd{i j:Str}:decide (V.str i=V.str j)=(i==j):=by
 rw[qf];simp
theorem Ce{i j:Array UInt8}:decide (V.byt i=V.byt j)=(i.toList==j.toList):=by
 rw[qf]
 cases i
 cases j;simp
section
variable{X:Cx}{a b c:cN}{ta tb tc:TE}{pos:Pos}
theorem e8{pins:List (aa×Obj)}{σ:St}{H:Hp}{s:ak}{Q:VK}{k Z:Bool}(I:Inv X pins σ H s)(q:Q (.bl k) H)(e:k=Z):EP X pins σ Q (.bool Z) s:=by
 subst e;exact{.bl k,H,I,rfl,q}
theorem eN:OpR X (cU .Eq) rEq:=by
 intro pins s σ H x y v u Q I Y Z h;obtain⟨hs,q⟩:=h
 cases x with
 |non=>
  cases Y
  cases y with
  |non=>cases Z;exact PySem.EqNone.eq_none_none (e8 I q (by simp))
  |bl j=>cases Z;exact PySem.EqNone.eq_none_bool (e8 I q (by simp))
  |int j=>obtain⟨t',rfl⟩:=Z;exact PySem.EqNone.eq_none_int (e8 I q (by simp))
  |str j=>obtain⟨t',rfl⟩:=Z;exact PySem.EqNone.eq_none_str (e8 I q (by simp))
  |_=>exact absurd (show false=true from hs) aW
 |bl i=>
  cases Y
  cases y with
  |non=>cases Z;exact PySem.EqNone.eq_bool_none (e8 I q (by simp))
  |bl j=>cases Z;exact eq_bool (e8 I q FA)
  |str j=>obtain⟨t',rfl⟩:=Z;exact PySem.EqMixed.eq_bool_str (e8 I q (by simp))
  |_=>exact absurd (show false=true from hs) aW
 |int i=>
  obtain⟨t,rfl⟩:=Y
  cases y with
  |non=>cases Z;exact PySem.EqNone.eq_int_none (e8 I q (by simp))
  |int j=>obtain⟨t',rfl⟩:=Z;exact eq_int (e8 I q Cc)
  |str j=>obtain⟨t',rfl⟩:=Z;exact PySem.EqMixed.eq_int_str (e8 I q (by simp))
  |_=>exact absurd (show false=true from hs) aW
 |str i=>
  obtain⟨t,rfl⟩:=Y
  cases y with
  |non=>cases Z;exact PySem.EqNone.eq_str_none (e8 I q (by simp))
  |bl j=>cases Z;exact PySem.EqMixed.eq_str_bool (e8 I q (by simp))
  |int j=>obtain⟨t',rfl⟩:=Z;exact PySem.EqMixed.eq_str_int (e8 I q (by simp))
  |str j=>obtain⟨t',rfl⟩:=Z;exact eq_str (e8 I q Cd)
  |_=>exact absurd (show false=true from hs) aW
 |byt i=>
  obtain⟨t,rfl⟩:=Y
  cases y with
  |byt j=>obtain⟨t',rfl⟩:=Z;exact PySem.W.eq_bytes (e8 I q Ce)
  |_=>exact absurd (show false=true from hs) aW
 |_=>cases y<;>exact absurd (show false=true from hs) aW
theorem Cf:OpR X (cU .NotEq) rNe:=by
 intro pins s σ H x y v u Q I Y Z h;obtain⟨hs,q⟩:=h
 cases x with
 |non=>
  cases Y
  cases y with
  |non=>cases Z;exact PySem.EqNone.ne_none_none (e8 I q (by simp))
  |bl j=>cases Z;exact PySem.EqNone.ne_none_bool (e8 I q (by simp))
  |int j=>obtain⟨t',rfl⟩:=Z;exact PySem.EqNone.ne_none_int (e8 I q (by simp))
  |str j=>obtain⟨t',rfl⟩:=Z;exact PySem.EqNone.ne_none_str (e8 I q (by simp))
  |_=>exact absurd (show false=true from hs) aW
 |bl i=>
  cases Y
  cases y with
  |non=>cases Z;exact PySem.EqNone.ne_bool_none (e8 I q (by simp))
  |bl j=>cases Z;exact ne_bool (e8 I q (congrArg not FA))
  |str j=>obtain⟨t',rfl⟩:=Z;exact PySem.EqMixed.ne_bool_str (e8 I q (by simp))
  |_=>exact absurd (show false=true from hs) aW
 |int i=>
  obtain⟨t,rfl⟩:=Y
  cases y with
  |non=>cases Z;exact PySem.EqNone.ne_int_none (e8 I q (by simp))
  |int j=>obtain⟨t',rfl⟩:=Z;exact ne_int (e8 I q (congrArg not Cc))
  |str j=>obtain⟨t',rfl⟩:=Z;exact PySem.EqMixed.ne_int_str (e8 I q (by simp))
  |_=>exact absurd (show false=true from hs) aW
 |str i=>
  obtain⟨t,rfl⟩:=Y
  cases y with
  |non=>cases Z;exact PySem.EqNone.ne_str_none (e8 I q (by simp))
  |bl j=>cases Z;exact PySem.EqMixed.ne_str_bool (e8 I q (by simp))
  |int j=>obtain⟨t',rfl⟩:=Z;exact PySem.EqMixed.ne_str_int (e8 I q (by simp))
  |str j=>obtain⟨t',rfl⟩:=Z;exact ne_str (e8 I q (congrArg not Cd))
  |_=>exact absurd (show false=true from hs) aW
 |byt i=>
  obtain⟨t,rfl⟩:=Y
  cases y with
  |byt j=>obtain⟨t',rfl⟩:=Z;exact PySem.W.ne_bytes (e8 I q (congrArg not Ce))
  |_=>exact absurd (show false=true from hs) aW
 |_=>cases y<;>exact absurd (show false=true from hs) aW
theorem rH:OpR X (cU .Lt) (rI0 fun i j=>.bl (decide (i<j))):=Jh fun _ _ _ _ _ _ _ q=>lt_int q
theorem op_le:OpR X (cU .LtE) (rI0 fun i j=>.bl (decide (i<=j))):=Jh fun _ _ _ _ _ _ _ q=>le_int q
theorem vV:OpR X (cU .Gt) (rI0 fun i j=>.bl (decide (j<i))):=Jh fun _ _ _ _ _ _ _ q=>gt_int q
theorem FB:OpR X (cU .GtE) (rI0 fun i j=>.bl (decide (j<=i))):=Jh fun _ _ _ _ _ _ _ q=>ge_int q
theorem bX(b:cN){op:Jd}(h:op≠.In:=by decide)(h2:op≠.NotIn:=by decide):i5 op b=false:=by
 have e1:(op==CmpOp.In)=false:=by cases op<;>first|rfl|exact absurd rfl h
 have Z:(op==CmpOp.NotIn)=false:=by cases op<;>first|rfl|exact absurd rfl h2
 cases b<;>simp[i5,e1,Z]
theorem mK{op:Jd}{r:R2}(ho:OpR X (cU op) r)(ha:PE X a ta)(hb:PE X b tb)(hm:i5 op b=false):PE X (.Compare a [op] [b] pos) (tOp r ta tb):=by
 intro pins s σ H Q I h;exact wpAny_Compare1 (M7 ha hb I h fun v u s2 x y H2 Y Z W q=>ho pins s2 σ H2 x y v u Q Y Z W q) hm
def tTest(t:TE):TT:=fun σ H Q=>t σ H fun x H'=>BlI x H' Q
theorem bO{op:Jd}{r:R2}(ho:OpR X (cU op) r)(ha:PE X a ta)(hb:PE X b tb)(hm:i5 op b=false):PT X (.Compare a [op] [b] pos) (tTest (tOp r ta tb)):=by
 intro pins s σ H Q I h;refine IQ (thn (ha pins s σ H _ I h) fun v U ⟨x,H1,Z,r1,M⟩=>thn (hb pins U σ H1 _ Z M) fun u s2 ⟨y,H2,V,r2,W⟩=>
  thn (ho pins s2 σ H2 x y v u _ V r1 r2 W) fun c D ⟨z,Y,J,r3,k,e,O⟩=>?_) hm
 subst e
 cases r3;exact kJ ⟨Y,J,O⟩
def TruV(K:ae)(x:V)(H:Hp)(k:Bool):Prop:=
 match x with
 |.non=>k=false
 |.bl b=>k=b
 |.int i=>k=(i != 0)
 |.str y=>y.length<=aB/\k=((y.length:Int) != 0)
 |.byt y=>y.size<=aB/\k=((y.size:Int) != 0)
 |.ref p=>(∃xs,SqL K H p xs/\k=!xs.isEmpty)\/(∃xs,SqT K H p xs/\k=!xs.isEmpty)\/∃kvs,H p=some (.dK kvs)/\k=!kvs.isEmpty
 |_=>False
theorem Bg{κ:Type}{kvs:List (κ×V)}{vs:List (κ×af)}(r:KV kvs vs):(!vs.isEmpty)=!kvs.isEmpty:=by
 cases r<;>rfl
theorem vW{xs:List V}{Z:List af}(r:cX xs Z):(!Z.toArray.isEmpty)=!xs.isEmpty:=by
 cases r<;>simp
theorem tV:(aB:Nat)<2^63:=by rw[mi];decide
theorem Na:TruR X (fun x H Q=>∃k,TruV X.K x H k/\Q k H):=by
 intro pins s σ H x v Q I V h;obtain⟨k,e,q⟩:=h;have hl:=tV;have hs:aB=16777216:=mi
 cases x with
 |non=>
  cases V;have Z:k=false:=e;subst Z;exact truthy_none ⟨H,I,q⟩
 |bl b=>
  cases V;have Z:k=b:=e;subst Z;exact kJ ⟨H,I,q⟩
 |int i=>
  obtain⟨t,rfl⟩:=V;have Z:k=(i != 0):=e;subst Z;exact PySem.P.truthy_int ⟨H,I,q⟩
 |str y=>
  obtain⟨t,rfl⟩:=V;obtain⟨hy,Z⟩:y.length<=aB/\k=((y.length:Int) != 0):=e;subst Z;exact PySem.P.truthy_str (by omega) {H,I.tok _,q}
 |byt y=>
  obtain⟨t,rfl⟩:=V;obtain⟨hy,Z⟩:y.size<=aB/\k=((y.size:Int) != 0):=e;subst Z;exact PySem.W.truthy_bytes (by omega) {H,I.tok _,q}
 |ref p=>
  cases V;have Z:(∃xs,SqL X.K H p xs/\k=!xs.isEmpty)\/(∃xs,SqT X.K H p xs/\k=!xs.isEmpty)\/∃kvs,H p=some (.dK kvs)/\k=!kvs.isEmpty:=e
  rcases Z with⟨xs,hx,Z⟩|⟨xs,hx,Z⟩|⟨kvs,hx,Z⟩
  ·subst Z;obtain⟨U,r,pl,O⟩:=I.list hx;have Y:=r.length;exact wpAny_truthy_list pl.isList (by simp only[aH];omega) {H,I.tok _,by rw[vW r];exact q}
  ·subst Z;obtain⟨U,r,pl,O⟩:=I.tuple hx;have Y:=r.length;exact truthy_tuple pl (by simp only[aH];omega) {H,I.tok _,by rw[vW r];exact q}
  ·subst Z;obtain⟨O,M,vs,r,m⟩:kvs.length<=aB/\(p==ff)=false/\∃vs,KV kvs vs/\s.heap.DictOf (eY X.prog X.w) p vs:=I.hok p _ hx;have Y:kvs.length=vs.length:=aZ r;exact wpAny_truthy_dict M m (by omega) {H,I.tok _,by rw[Bg r];exact q}
 |_=>exact (show False from e).elim
theorem vX(ha:PE X a ta)(V:∀Z,Fp a X.env Z=(do let v <- Z;uC a.pos;pZ [v] (truthy v))) :
  PT X a (fun σ H Q=>ta σ H fun x H'=>∃k,TruV X.K x H' k/\Q k H'):=by
 intro pins s σ H Q I h;exact isTrue_plain (thn (ha pins s σ H _ I h) fun v W ⟨x,H1,Y,r1,U⟩=>Na pins W σ H1 x v Q Y r1 U) (V _)
theorem vY:OpR X (iE .Add) (fun x y H Q=>∃i j,x=.str i/\y=.str j/\i.length+j.length<=aB/\Q (.str (i++j)) H):=by
 intro pins s σ H x y v u Q I Z Y h;obtain⟨i,j,rfl,rfl,W,q⟩:=h;obtain⟨t,rfl⟩:=Z;obtain⟨t',rfl⟩:=Y;exact add_str (fun t' tk=>{.str (i++j),H,I.tok _,{_,rfl},q}) W
theorem vals1{x:V}{us:List af}(r:cX [x] us):∃u,us=[u]/\RelV x u:=by
 cases r with
 |cons r1 r2=>cases r2;exact{_,rfl,r1}
theorem vals2{x y:V}{us:List af}(r:cX [x,y] us):∃u Z,us=[u,Z]/\RelV x u/\RelV y Z:=by
 cases r with
 |cons r1 r2=>
  cases r2 with
  |cons r3 Y=>cases Y;exact{_,_,rfl,r1,r3}
theorem FC:lF X (.builtin "abs") (fun xs H Q=>∃i,xs=[.int i]/\Q (.int (if i<0 then -i else i)) H):=by
 intro pins s σ H xs us Q I r h;obtain⟨i,rfl,q⟩:=h;obtain⟨u,rfl,t,rfl⟩:=vals1 r;exact call_abs_int fun u tk=>{.int (if i<0 then -i else i),H,I.tok _,{_,rfl},q}
theorem xX(hc:X.calm=true):lF X (.builtin "max") (fun xs H Q=>∃i j,xs=[.int i,.int j]/\Q (.int (if j>i then j else i)) H):=by
 intro pins s σ H xs us Q I r h;obtain⟨i,j,rfl,q⟩:=h;obtain⟨u,Y,rfl,⟨t,rfl⟩,⟨t',rfl⟩⟩:=vals2 r;refine max_two_ints (I.ok.hd hc) fun h' tk k=>{_,H,I.kept k,?_,q}
 by_cases Z:j>i
 ·rw[if_pos Z,if_pos Z];exact{_,rfl}
 ·rw[if_neg Z,if_neg Z];exact{_,rfl}
theorem Ej(hc:X.calm=true):lF X (.builtin "min") (fun xs H Q=>∃i j,xs=[.int i,.int j]/\Q (.int (if j<i then j else i)) H):=by
 intro pins s σ H xs us Q I r h;obtain⟨i,j,rfl,q⟩:=h;obtain⟨u,Y,rfl,⟨t,rfl⟩,⟨t',rfl⟩⟩:=vals2 r;refine min_two_ints (I.ok.hd hc) fun h' tk k=>{_,H,I.kept k,?_,q}
 by_cases Z:j<i
 ·rw[if_pos Z,if_pos Z];exact{_,rfl}
 ·rw[if_neg Z,if_neg Z];exact{_,rfl}
theorem qX:lF X (.type "int") (fun xs H Q=>(∃i,xs=[.int i]/\Q (.int i) H)\/∃k,xs=[.bl k]/\Q (.int (if k then 1 else 0)) H):=by
 intro pins s σ H xs us Q I r h
 rcases h with⟨i,rfl,q⟩|⟨k,rfl,q⟩
 ·obtain⟨u,rfl,t,rfl⟩:=vals1 r;exact call_int_int {.int i,H,I,{_,rfl},q}
 ·obtain⟨u,rfl,r1⟩:=vals1 r
  cases r1;exact call_int_bool {.int (if k then 1 else 0),H,I.tok _,{_,rfl},q}
end
structure Bh(h:cz)(x dx C:aa)(mA:Str->Option af):Prop where
 obj:h.get? x=some (gK C dx)
 ns:h.Ns1 dx mA
 ne:dx≠x
theorem Ek{h:cz}{dx:aa}{mA:Str->Option af}(n:h.Ns1 dx mA):∃od,h.get? dx=some od/\∀name,qg name od=some (mA name):=by
 obtain⟨o,es,ep,ho,hd,hk,_,hm⟩:=n;refine{o,ho,fun name=>?_};have e:=hm name;unfold nsFind findBy at e;rw[<- Array.find?_toList]at e;unfold qg;rw[hd];dsimp only
 split
 ·rename_i y q
  rw[q]at e;exact congrArg some e
 ·rename_i q
  rw[q]at e;have a:es.toList.any (·.refKey)=false:=by
   rw[List.any_eq_false];intro y hy;obtain⟨z,t,Z⟩:=hk y (Array.mem_toList_iff.mp hy);simp[DictEntry.refKey,Z]
  have Y:¬es.toList.any (·.refKey)=true:=by rw[a];exact aW
  rw[if_neg Y];exact congrArg some e
theorem Bh.look{h:cz}{x dx C:aa}{mA:Str->Option af}(I:Bh h x dx C mA):∃od,vZ h x (gK C dx) C (some od)/\∀name,qg name od=some (mA name):=
 let ⟨od,ho,hl⟩:=Ek I.ns
 {od,⟨I.obj,rfl,rfl,ho⟩,hl}
section
variable{prog:aN}{w:bL}{A:bZ}{E:af->ak->Prop}{s:ak}{K:ae}{x dx C f:aa}{mA:Str->Option af}{name:Str}{v:af}
theorem Jk{Z:Bool}{Q:af->ak->Prop}(X:K.In s.heap)(I:Bh s.heap x dx C mA)(V:nJ K C name=true)(hh:sJ K C=true)
  (ha:aU K (.ref C) name=some none) (hv:mA name=some v) (Y:El v=true) (h:Q v {s with toks:=s.toks+1}) :
  aX (bf prog w) A (getAttr (.ref x) name Z) Q E s:=by
 obtain⟨od,J,hl⟩:=I.look;exact PySem.W.get_value X J (rC V).1 (PySem.W.findObj_own hh ha rfl (by rw[hl,hv])) Y h
theorem FD{pl:Sem Bool}{Q:af×List af->ak->Prop}(X:K.In s.heap)(I:Bh s.heap x dx C mA)(Z:nJ K C name=true)
  (Y:aU K (.ref C) name=some (some (.ref f))) (ht:oO K (.ref f)=true) (hv:mA name=none) (h:Q (.ref f,[.ref x]) s) :
  aX (bf prog w) A (lG (.ref x) name pl) Q E s:=by
 obtain⟨od,J,hl⟩:=I.look;exact PySem.W.method_fn X J (rC Z).1 (rC Z).2 Y (beq_iff_eq.mp ht) (by show (qg name od).map (·.isSome)=some false;rw[hl,hv];rfl) h
theorem Jl{ns:List Str}{Q:Unit->ak->Prop}(X:K.In s.heap)(I:Bh s.heap x dx C mA)
  (hs:aU K (.ref C) "__setattr__"=some (some (.builtin "object.__setattr__"))) (hp:Cg K C=true) (ht:uW K C name=some none) (hh:sJ K C=true)
  (hw:z8 mA ns) (hsz:ns.length<=aB)
  (h:∀h',Bh h' x dx C (fun y=>if y=name then some v else mA y)->uB dx s.heap h'->Q () {s with heap:=h',toks:=s.toks+2}) :
  aX (bf prog w) A (setAttr (.ref x) name v) Q E s:=by
 obtain⟨od,J,hl⟩:=I.look;refine PySem.W.set_plain X J hs (PySem.W.osa_open (s:={s with toks:=s.toks+1}) (r:=none) X J hp ht fun b=>?_);obtain⟨z,hc,U⟩:=PySem.W.any_some hh;have hx:s.heap.get? x=some {.ref C,some dx,.plain,#[]}:=I.obj;refine ax (bK (ax (ax (wpAny_loadPart hx (ax (PySem.W.Looks.here (s:={s with toks:=s.toks+1}) (PySem.W.looks_clsIn X hc) ?_))))));rw[U];refine bK (a:=some dx) (ax (bK (ax ?_)));refine wpAny_nsSet1 (s:={s with toks:=s.toks+1}) I.ns fun h' Y Z=>?_;obtain⟨t,H,D,O,V,M⟩:=Y.count (PySem.Within.cons name v hw);refine ax (wpAny_lookBehind O (by rw[V];exact pastItsLine_dict (dA M (by rw[aT];omega))) ?_);exact bK (h _ {(Z.2 _ (gj I.ne)).trans I.obj,Y,I.ne} Z)
theorem FE{R:Nb->ak->Prop}{vs:List af}{Z:List (Str×af)}(X:K.In s.heap)(hm:uX K C=true)
  (hi:aU K (.ref C) "__init__"=some (some (.ref f))) (Y:FF K (.ref f)=some (.type "function"))
  (h:p4 (bf prog w) (A.under (.builtin "type.__call__" {.ref C::vs,Z})) (.call (.ref f) {.ref (s.heap.objs.size+1)::vs,Z}) (PySem.W.InitBack (s.heap.objs.size+1) R)
   {s with heap:=(s.heap.push fh).push (gK C s.heap.objs.size)}) :
  p4 (bf prog w) A (.call (.ref C) ⟨vs,Z⟩) R s:=by
 obtain⟨hh,g,d,t,os⟩:=s;exact PySem.W.make_core (PySem.W.makes_of X hm) (j8 X hi) (fun self=>PySem.W.bind_fn X self Y) (.inl rfl) h
end
def cH(f:Str)(v:V):List (Str×V)->List (Str×V)
 | []=>[(f,v)]
 |(g,x)::r=>if g=f then (g,v)::r else (g,x)::cH f v r
theorem uE(f g:Str)(v:V):∀fs:List (Str×V),(cH f v fs).lookup g=if g=f then some v else fs.lookup g
 | []=>by
  show kP g [(f,v)]=_
  by_cases h:g=f
  ·have hb:(g==f)=true:=beq_iff_eq.mpr h;simp only[kP,hb,if_pos h]
  ·have hb:(g==f)=false:=beq_eq_false_iff_ne.mpr h;simp only[kP,hb,if_neg h]
 |(k,x)::r=>by
  have Z:=uE f g v r;rw[show cH f v ((k,x)::r)=(if k=f then (k,v)::r else (k,x)::cH f v r) from rfl]
  by_cases hk:k=f
  ·rw[if_pos hk]
   by_cases h:g=k
   ·have hb:(g==k)=true:=beq_iff_eq.mpr h;simp only[kP,hb,if_pos (h.trans hk)]
   ·have hb:(g==k)=false:=beq_eq_false_iff_ne.mpr h;simp only[kP,hb,if_neg (fun e:g=f=>h (e.trans hk.symm))]
  ·rw[if_neg hk]
   by_cases h:g=k
   ·have hb:(g==k)=true:=beq_iff_eq.mpr h;simp only[kP,hb,if_neg (fun e:g=f=>hk (h.symm.trans e))]
   ·have hb:(g==k)=false:=beq_eq_false_iff_ne.mpr h;simp only[kP,hb];exact Z
theorem tW(f:Str)(v:V):∀fs:List (Str×V),f∈(cH f v fs).map (·.1)/\∀g,g∈fs.map (·.1)->g∈(cH f v fs).map (·.1)
 | []=>{by simp[cH],fun g h=>by simp at h}
 |(k,x)::r=>by
  obtain⟨i1,i2⟩:=tW f v r;rw[show cH f v ((k,x)::r)=(if k=f then (k,v)::r else (k,x)::cH f v r) from rfl]
  by_cases hk:k=f
  ·rw[if_pos hk];subst hk;exact{by simp,fun g h=>by simpa using h}
  ·rw[if_neg hk];refine{?_,fun g h=>?_}
   ·rw[b9];exact ah _ i1
   ·rw[b9]at h |-
    rcases ar.mp h with e|e
    ·exact ar.mpr (.inl e)
    ·exact ah _ (i2 g e)
theorem uF(f:Str)(v:V):∀fs:List (Str×V),(cH f v fs).length<=fs.length+1
 | []=>by simp[cH]
 |(k,x)::r=>by
  have Z:=uF f v r;rw[show cH f v ((k,x)::r)=(if k=f then (k,v)::r else (k,x)::cH f v r) from rfl]
  by_cases hk:k=f
  ·rw[if_pos hk,aT,aT];omega
  ·rw[if_neg hk,aT,aT];omega
theorem rB.some_of{v:V}{o:Option af}(r:rB (some v) o):∃u,o=some u/\RelV v u:=by
 cases o with
 |none=>exact (show False from r).elim
 |some u=>exact⟨u,rfl,r⟩
theorem rB.none_of{o:Option af}(r:rB none o):o=none:=by
 cases o with
 |none=>rfl
 |some u=>exact (show False from r).elim
theorem Em{v:V}{u:af}(r:RelV v u):El u=true:=by
 cases v with
 |non=>cases (show u=Value.none from r);rfl
 |bl b=>cases (show u=Value.bool b from r);rfl
 |int i=>obtain⟨t,e⟩:=(show ∃t,u=Value.int i t from r);cases e;rfl
 |str x=>obtain⟨t,e⟩:=(show ∃t,u=Value.str x t from r);cases e;rfl
 |byt b=>obtain⟨t,e⟩:=(show ∃t,u=Value.bytes b t from r);cases e;rfl
 |flt b=>obtain⟨t,e⟩:=(show ∃t,u=Value.float b t from r);cases e;rfl
 |ref a=>cases (show u=Value.ref a from r);rfl
 |ty n=>cases (show u=Value.type n from r);rfl
section
variable{P:aN}{w:bL}{H H':Hp}{h h':cz}{a C dx:aa}{fs fs':List (Str×V)}
theorem vm(hok:HOk P w H h)(e:H a=some (.ins C dx fs)):∃mA,Bh h a dx C mA/\(∀f,rB (fs.lookup f) (mA f))/\z8 mA (fs.map (·.1))/\fs.length<=1000/\H dx=some (.own a):=by
 obtain⟨d,z,ne,ob,mA,n,r,q⟩:=(show eE P w H h a (.ins C dx fs) from hok a _ e);exact{mA,⟨ob,n,ne⟩,r,q,z,d}
end
structure Cls(K:ae)(C:aa):Prop where
 pg:nJ K C Str.empty=true
 hd:sJ K C=true
 po:Cg K C=true
 sa:aU K (.ref C) "__setattr__"=some (some (.builtin "object.__setattr__"))
theorem Cls.get{K:ae}{C:aa}(c:Cls K C)(f:Str):nJ K C f=true:=c.pg
def eI(K:ae)(C:aa)(f:Str):Prop:=aU K (.ref C) f=some none
theorem eI.taker{K:ae}{C:aa}{f:Str}(n:eI K C f):uW K C f=some none:=by
 unfold uW;rw[show aU K (.ref C) f=some none from n];rfl
structure xw(K:ae)(C:aa)(m:Str)(f:aa):Prop where
 at_:aU K (.ref C) m=some (some (.ref f))
 fn:oO K (.ref f)=true
 kp:gF K (.ref f)=true
section
variable{X:Cx}{pins:List (aa×Obj)}{σ:St}{H:Hp}{s:ak}{a C dx:aa}{fs:List (Str×V)}{f:Str}{v:V}{A:bZ}{E:af->ak->Prop}
theorem v9{b:Bool}{Q:af->ak->Prop}(I:Inv X pins σ H s)(e:H a=some (.ins C dx fs))(c:Cls X.K C)(n:eI X.K C f)(l:fs.lookup f=some v)
  (h:∀u s',Inv X pins σ H s'->RelV v u->Q u s'):aX (bf X.prog X.w) A (getAttr (.ref a) f b) Q E s:=by
 obtain⟨mA,O,r,_,_,_⟩:=vm I.hok e;obtain⟨u,hu,ru⟩:=rB.some_of (v:=v) (o:=mA f) (by rw[<- l];exact r f);exact Jk I.kIn O (c.get f) c.hd n hu (Em ru) (h u _ (I.tok _) ru)
theorem oP{m:Str}{g:aa}{pl:Sem Bool}{Q:af×List af->ak->Prop}(I:Inv X pins σ H s)(e:H a=some (.ins C dx fs))(c:Cls X.K C)(k:xw X.K C m g)(l:fs.lookup m=none)
  (h:Q (.ref g,[.ref a]) s):aX (bf X.prog X.w) A (lG (.ref a) m pl) Q E s:=by
 obtain⟨mA,O,r,_,_,_⟩:=vm I.hok e;have Z:mA m=none:=rB.none_of (by rw[<- l];exact r m);exact FD I.kIn O (c.get m) k.at_ k.fn Z h
theorem wc{y:V}{u:af}{Q:Unit->ak->Prop}(I:Inv X pins σ H s)(e:H a=some (.ins C dx fs))(c:Cls X.K C)(n:eI X.K C f)(hl:fs.length<1000)(M:RelV y u)
  (h:∀s',Inv X pins σ (upd H a (.ins C dx (cH f y fs))) s'->Q () s'):aX (bf X.prog X.w) A (setAttr (.ref a) f u) Q E s:=by
 obtain⟨mA,O,r,Y,_,ho⟩:=vm I.hok e;have J:(fs.map (·.1)).length<=aB:=by rw[ao,mi];omega
 refine Jl I.kIn O c.sa c.po n.taker c.hd Y J fun h' Z sb=>h _ ?_;have hd:∃o,h'.get? dx=some o:=let ⟨o,_,_,W,_⟩:=Z.ns;⟨o,W⟩;refine I.write (x:=a) (e:=dx) (by rw[e];exact True.intro) (.inr ho) (fun b q hb z=>(sb.2 b hb).trans z) hd ?_;refine{by rw[aO O.ne];exact ho,?_,O.ne,Z.obj,_,Z.ns,fun g=>?_,fun g U=>?_}
 ·have:=uF f y fs;omega
 ·show rB ((cH f y fs).lookup g) (if g=f then some u else mA g);rw[uE]
  by_cases q:g=f
  ·rw[if_pos q,if_pos q];exact M
  ·rw[if_neg q,if_neg q];exact r g
 ·by_cases q:g=f
  ·rw[q];exact (tW f y fs).1
  ·refine (tW f y fs).2 g (Y g fun z=>U ?_);show (if g=f then some u else mA g)=none;rw[if_neg q];exact z
theorem Inv.made(I:Inv X pins σ H s):Inv X pins σ (upd (upd H s.heap.objs.size (.own (s.heap.objs.size+1))) (s.heap.objs.size+1) (.ins C s.heap.objs.size []))
  {s with heap:=(s.heap.push fh).push (gK C s.heap.objs.size)}:=by
 have e1:(s.heap.push fh).get? s.heap.objs.size=some fh:=cy s.heap rfl;have W:((s.heap.push fh).push (gK C s.heap.objs.size)).get? (s.heap.objs.size+1)=some (gK C s.heap.objs.size):=by
  have:=cy (s.heap.push fh) (o:=gK C s.heap.objs.size) rfl
  rwa[rJ]at this
 have e3:(s.heap.push fh).Ns s.heap.objs.size (fun _=>none):={fh,#[],_,e1,rfl,(fun e Y=>absurd Y (by simp)),fun _=>rfl};have Z:=I.laid (a:=s.heap.objs.size) (o:=.own (s.heap.objs.size+1)) (h':=s.heap.push fh) (t':=s.toks) (fun b u q=>aJ _ q) (aD _) {_,e1};refine Z.laid (a:=s.heap.objs.size+1) (o:=.ins C s.heap.objs.size []) (t':=s.toks) (fun b u q=>aJ _ q) (Bi (rJ _ _)) ?_;have ne:s.heap.objs.size≠s.heap.objs.size+1:=aR (wg _);refine{by rw[aO ne,ag],bU _,ne,W,fun _=>none,(Heap.Ns1.of_empty e3).at fun o q=>aJ _ q,fun _=>True.intro,fun y hy=>absurd rfl hy}
theorem Jm{prog:aN}{w:bL}{env:Env}{e:cN}{f:Str}{pos:Pos}{s:ak}{Q:af->ak->Prop}(hb:me e f env (fg e env)=fg e env)
  (h:aX (bf prog w) A (fg e env) (fun o Z=>aX (bf prog w) A (getAttr o f true) Q E Z) E s):aX (bf prog w) A (fg (.Attribute e f pos) env) Q E s:=
 Attribute_any_ h (by rw[arm_eval_Attribute,hb])
end
inductive FldI(K:ae)(f:Str)(x:V)(H:Hp)(Q:VK):Prop where
 |mk(a C dx:aa)(fs:List (Str×V))(v:V)(hx:x=.ref a)(h:H a=some (.ins C dx fs))(c:Cls K C)(n:eI K C f)(e:fs.lookup f=some v)(q:Q v H):FldI K f x H Q
def Nc(K:ae)(ta:TE)(f:Str):TE:=fun σ H Q=>ta σ H fun x H1=>FldI K f x H1 Q
def sFld(K:ae)(ta tv:TE)(f:Str):TS:=fun D σ H=>tv σ H fun y H1=>ta σ H1 fun x H2=>∃a C dx fs,x=.ref a/\H2 a=some (.ins C dx fs)/\Cls K C/\eI K C f/\fs.length<1000 /\
 D.nx σ (upd H2 a (.ins C dx (cH f y fs)))
def InOp(X:Cx)(op:Jf)(rd:V->V->Hp->VK->Prop):Prop:=
 ∀(pins:List (aa×Obj)) (s:ak) (σ:St) (H:Hp) (x y:V) (u v:af) (Q:VK),Inv X pins σ H s->RelV x u->RelV y v->rd x y H Q->aX (bf X.prog X.w) X.A (inplaceOp op u v) (EP X pins σ Q) X.xe s
def Jo(K:ae)(ta tv:TE)(rd:V->V->Hp->VK->Prop)(f:Str):TS:=fun D σ H=>ta σ H fun x H1=>∃a C dx fs v,x=.ref a/\H1 a=some (.ins C dx fs)/\Cls K C/\eI K C f/\fs.lookup f=some v /\
 tv σ H1 fun y H2=>rd v y H2 fun z Y=>∃Z fs',Y a=some (.ins C Z fs')/\fs'.length<1000/\D.nx σ (upd Y a (.ins C Z (cH f z fs')))
section
variable{X:Cx}{o e value:cN}{f:Str}{pos pos' tpos:Pos}{ta tv:TE}
theorem cW(V:PE X e ta)(hb:me e f X.env (fg e X.env)=fg e X.env):PE X (.Attribute e f pos) (Nc X.K ta f):=by
 intro pins s σ H Q I h;refine Jm hb (thn (V pins s σ H _ I h) fun u M ⟨x,H1,Z,Y,a,C,dx,fs,v,ex,U,c,n,l,q⟩=>?_);subst ex;obtain rfl:u=Value.ref a:=Y;exact v9 Z U c n l fun O s2 W ru=>⟨v,H1,W,ru,q⟩
theorem eJ(ha:PE X o ta)(hv:PE X value tv)(hs:uD value (some (.Attribute o f pos')) pos.line X.env=pure false):PS X (.Assign [.Attribute o f pos'] value pos) (sFld X.K ta tv f):=by
 intro pins s σ H D I h;refine plainObj_wpAny_Assign_Attribute (thn (hv pins s σ H _ I h) fun u U ⟨y,H1,Z,O,q⟩=>thn (ha pins U σ H1 _ Z q) fun z s2 ⟨x,H2,V,W,a,C,dx,fs,ex,J,c,n,l,Y⟩=>?_) hs;subst ex;obtain rfl:z=Value.ref a:=W;exact wc V J c n l O fun t M=>{σ,_,M,Y}
theorem xY{op:Jf}{rd:V->V->Hp->VK->Prop}(ha:PE X o ta)(hv:PE X value tv)(Y:InOp X op rd):PS X (.AugAssign (.Attribute o f tpos) op value pos) (Jo X.K ta tv rd f):=by
 intro pins s σ H D I h;refine wpAny_AugAssign_AttributeAny (thn (ha pins s σ H _ I h) fun g s1 ⟨x,H1,O,rx,a,C,dx,fs,v,ex,U,c,n,l,q⟩=>?_);subst ex;obtain rfl:g=Value.ref a:=rx;refine v9 O U c n l fun u s2 I2 ru=>thn (hv pins s2 σ H1 _ I2 q) fun w3 s3 ⟨y,H2,I3,t,W⟩=>thn (Y pins s3 σ H2 v y u w3 _ I3 ru t W) fun w4 s4 ⟨z,H3,J,rz,bW,fs',Z,l',q4⟩=>?_;exact wc J Z c n l' rz fun s5 M=>{σ,_,M,q4}
def rAdd:V->V->Hp->VK->Prop:=fun x y H Q=>∃i j,x=.int i/\y=.int j/\Q (.int (i+j)) H
theorem FG:InOp X .Add rAdd:=by
 rintro pins s σ H x y u v Q I Z Y ⟨i,j,rfl,rfl,q⟩;obtain⟨t,rfl⟩:=(show ∃t,u=Value.int i t from Z);obtain⟨t',rfl⟩:=(show ∃t',v=Value.int j t' from Y);exact PyProof.Rows.iadd_int {.int (i+j),H,I.tok _,{_,rfl},q}
theorem methcall_of{pl:Sem Bool}{m:Str}{apos:Pos}{args:List cN}{pins:List (aa×Obj)}{s:ak}{σ:St}{H:Hp}{Q:af->ak->Prop}{te:TE}(U:PE X e te)(I:Inv X pins σ H s)
  (h:te σ H fun x H1=>∃a C dx fs g,x=.ref a/\H1 a=some (.ins C dx fs)/\Cls X.K C/\xw X.K C m g/\fs.lookup m=none /\
   ∀Z,Inv X pins σ H1 Z->aX (bf X.prog X.w) X.A (xx pos (.ref g) [.ref a] (iN pos (cu args X.env)) (mj pos (iM [] X.env))) Q X.xe Z)
  (ht:fg (.Call (.Attribute e m apos) args [] pos) X.env=(do
   let W <- fg e X.env
   uC apos.atName
   let (f,first) <- pZ [W] (lG W m pl)
   xx pos f first (iN pos (cu args X.env)) (mj pos (iM [] X.env)))) :
  aX (bf X.prog X.w) X.A (fg (.Call (.Attribute e m apos) args [] pos) X.env) Q X.xe s:=by
 refine iG (pl:=pl) (thn (U pins s σ H _ I h) fun u Z ⟨x,H1,Y,V,a,C,dx,fs,g,ex,O,c,k,l,q⟩=>?_) ht;subst ex;obtain rfl:u=Value.ref a:=V;exact oP Y O c k l (q Z Y)
end
section
variable{X:Cx}{pins:List (aa×Obj)}{σ:St}{H:Hp}{s:ak}{A:bZ}{E:af->ak->Prop}{Q:af->ak->Prop}{c:af}{b:Bool}
inductive tX(K:ae)(H:Hp):V->af->Prop where
 |non:tX K H .non (.type "NoneType")
 |bl(x:Bool):tX K H (.bl x) (.type "bool")
 |int(i:Int):tX K H (.int i) (.type "int")
 |str(x:Str):tX K H (.str x) (.type "str")
 |flt(x:UInt64):tX K H (.flt x) (.type "float")
 |lst{a:aa}{xs:List V}(e:H a=some (.lst xs)):tX K H (.ref a) (.type "list")
 |frz{a:aa}{o:Obj}{xs:List V}(e:H a=some (.frz o (.lst xs))):tX K H (.ref a) (.type "list")
 |tup{a:aa}{xs:List V}(e:H a=some (.tup xs)):tX K H (.ref a) (.type "tuple")
 |dK{a:aa}{kvs:List (Key×V)}(e:H a=some (.dK kvs)):tX K H (.ref a) (.type "dict")
 |dT{a:aa}{kvs:List (List Key×V)}(e:H a=some (.dT kvs)):tX K H (.ref a) (.type "dict")
 |ins{a C dx:aa}{fs:List (Str×V)}(e:H a=some (.ins C dx fs))(cl:Cls K C)(ha:aU K (.ref C) "__class__"=some (some (.builtin "object.__class__")))
   (hn:Cj K (.builtin "object.__class__") "__get__"=some (some (.builtin "getset_descriptor.__get__"))) (htk:Fb K (.builtin "object.__class__")=some true)
   (hm:xy K C (.type "object")=some true):tX K H (.ref a) (.ref C)
theorem En{x:V}{u t:af}(I:Inv X pins σ H s)(Z:RelV x u)(ty:tX X.K H x t)(e:gG X.K t c=some b)(h:∀tk,Q (.bool b) {s with toks:=tk}) :
  aX (bf X.prog X.w) A (xu (.builtin "isinstance") [u,c]) Q E s:=by
 cases ty with
 |non=>cases (show u=Value.none from Z);exact eT PySem.W.kitx_none I.kIn True.intro e (fun z=>nomatch z) h
 |bl y=>cases (show u=Value.bool y from Z);exact eT PySem.W.kitx_bool I.kIn True.intro e (fun z=>nomatch z) h
 |int i=>obtain⟨t,q⟩:=(show ∃t,u=Value.int i t from Z);cases q;exact eT PySem.W.kitx_int I.kIn True.intro e (fun z=>nomatch z) h
 |str y=>obtain⟨t,q⟩:=(show ∃t,u=Value.str y t from Z);cases q;exact eT PySem.W.kitx_str I.kIn True.intro e (fun z=>nomatch z) h
 |flt y=>obtain⟨t,q⟩:=(show ∃t,u=Value.float y t from Z);cases q;exact eT PySem.W.kitx_float I.kIn True.intro e (fun z=>nomatch z) h
 |@lst a xs Y=>
  cases (show u=Value.ref a from Z);obtain⟨_,_,n,_,h1⟩:=(show eE X.prog X.w H s.heap a (.lst xs) from I.hok a _ Y);exact eT Ck I.kIn {_,h1,rfl} e (fun z=>nomatch z) h
 |@frz a ob xs Y=>
  cases (show u=Value.ref a from Z);obtain⟨_,_,_,n,_,h1⟩:=(show eE X.prog X.w H s.heap a (.frz ob (.lst xs)) from I.hok a _ Y);exact eT Ck I.kIn {_,h1,rfl} e (fun z=>nomatch z) h
 |@tup a xs Y=>
  cases (show u=Value.ref a from Z);obtain⟨_,_,_,p⟩:=(show eE X.prog X.w H s.heap a (.tup xs) from I.hok a _ Y);obtain⟨o,h1,h2,_⟩:=p;exact eT PySem.W.kitx_tuple I.kIn ⟨o,h1,h2⟩ e (fun z=>nomatch z) h
 |@dK a kvs Y=>
  cases (show u=Value.ref a from Z);obtain⟨_,_,vs,_,p⟩:=(show eE X.prog X.w H s.heap a (.dK kvs) from I.hok a _ Y);obtain⟨o,es,ep,h1,h2,_⟩:=p;exact eT Cm I.kIn ⟨o,h1,h2.1⟩ e (fun z=>nomatch z) h
 |@dT a kvs Y=>
  cases (show u=Value.ref a from Z);obtain⟨_,_,xs,_,o,es,ep,h1,h2,_⟩:=(show eE X.prog X.w H s.heap a (.dT kvs) from I.hok a _ Y);exact eT Cm I.kIn ⟨o,h1,h2.1⟩ e (fun z=>nomatch z) h
 |@ins a C dx fs Y cl ha M U hm=>
  cases (show u=Value.ref a from Z);obtain⟨mA,O,_⟩:=vm I.hok Y;obtain⟨od,J,_⟩:=O.look;exact eT (PySem.W.kitx_own (cl.get _) cl.hd ha M U hm) I.kIn J e (fun z=>nomatch z) h
end
structure cQ(k:Nat)(A:bZ):Prop where
 hd:A.handled=none
 dp:A.depth+3*k+5<recursionLimit
 un:A.units+16*k+200<eK
theorem cQ.mono{j k:Nat}{A:bZ}(r:cQ k A)(h:j<=k):cQ j A:={r.hd,by have:=r.dp;omega,by have:=r.un;omega}
theorem cQ.deeper{k:Nat}{A:bZ}(r:cQ (k+1) A)(env:Env):cQ k (A.deeper env):=
 {r.hd,by have:=r.dp;show A.depth+1+3*k+5<_;omega,by have:=r.un;show A.units+3+16*k+200<_;omega}
theorem Bj{A:bZ}{C:aa}{us:List af}{Z:List (Str×af)}:(A.under (.builtin "type.__call__" {.ref C::us,Z})).depth=A.depth+1:=by
 first|rfl|simp[zR,Code.weight,Code.isCreation,Code.isGuard,Code.isCaller,Code.frames,AZ,guardIds]
theorem Bk{A:bZ}{C:aa}{us:List af}{Z:List (Str×af)}:(A.under (.builtin "type.__call__" {.ref C::us,Z})).units=A.units+1:=by
 first|rfl|simp[zR,Code.cUnits,Code.frames,AZ]
theorem cQ.make{k:Nat}{A:bZ}(r:cQ (k+1) A)(C:aa)(us:List af)(Z:List (Str×af)):cQ k (A.under (.builtin "type.__call__" {.ref C::us,Z})):=
 {r.hd,by have:=r.dp;rw[Bj];omega,by have:=r.un;rw[Bk];omega}
theorem cQ.depth{k:Nat}{A:bZ}(r:cQ k A):A.depth<recursionLimit:=by have:=r.dp;omega
theorem cQ.units{k:Nat}{A:bZ}(r:cQ k A):A.units+64<eK:=by have:=r.un;omega
def Bm:TA:=fun _ H Q=>Q [] H
def pI(ta:TE)(tr:TA):TA:=fun σ H Q=>ta σ H fun x H1=>tr σ H1 fun xs H2=>Q (x::xs) H2
section
variable{X:Cx}{e:cN}{es:List cN}{te:TE}{t:TA}{pos:Pos}
theorem aj:PA X [] Bm:=fun _ _ _ _ H Q I h=>Fc {[],H,I,.nil,h}
theorem au(ha:PE X e te)(hr:PA X es t)(hs:cu (e::es) X.env=(false,fg e X.env)::cu es X.env:=by rfl):PA X (e::es) (pI te t):=by
 intro pos pins s σ H Q I h;rw[hs];show aX _ _ (spliced ((false,fg e X.env)::iN pos (cu es X.env))) _ _ s;refine Eo (thn (ha pins s σ H _ I h) fun u V ⟨x,H1,Z,r1,U⟩=>?_);exact thn (hr pos pins V σ H1 _ Z U) fun us s2 ⟨xs,H2,W,r2,Y⟩=>{x::xs,H2,W,.cons r1 r2,Y}
def tTup(t:TA):TE:=fun σ H Q=>t σ H fun xs H1=>xs.length<=aB/\∀p,H1 p=none->Q (.ref p) (upd H1 p (.tup xs))
def tLst(t:TA):TE:=fun σ H Q=>t σ H fun xs H1=>xs.length<=aB/\∀p,H1 p=none->Q (.ref p) (upd H1 p (.lst xs))
theorem eD {x1} (h:PA X es t):PE X (.Tuple es x1 pos) (tTup t):=by
 intro pins s σ H Q I hq;refine wpAny_Tuple_spliced (thn (h pos pins s σ H _ I hq) fun us Z ⟨xs,H1,Y,r,z,q⟩=>{by rw[<- r.length];exact z,?_});have W:H1 Z.heap.objs.size=none:=Y.hok.fresh (aD _);refine{.ref Z.heap.objs.size,upd H1 Z.heap.objs.size (.tup xs),Y.laid (t':=Z.toks) (fun b u e=>aJ _ e) (aD _) ?_,rfl,q _ W};exact{z,us,r,{_,cy _ rfl,rfl,_,rfl}}
theorem eA(h:PA X es t):PE X (.List es pos) (tLst t):=by
 intro pins s σ H Q I hq;refine wpAny_List_spliced (thn (h pos pins s σ H _ I hq) fun us Z ⟨xs,H1,Y,r,z,q⟩=>{by rw[<- r.length];exact z,?_});have W:H1 Z.heap.objs.size=none:=Y.hok.fresh (aD _);refine{.ref Z.heap.objs.size,upd H1 Z.heap.objs.size (.lst xs),Y.laid (t':=Z.toks) (fun b u e=>aJ _ e) (aD _) ?_,rfl,q _ W};exact{z,us,0,r,cy _ rfl}
end
abbrev Sp:=List V->Hp->VK->XK->Prop
abbrev CXT:=List Env->Hp->ak->XK->af->ak->Prop
structure yP(P:aN)(w:bL)(K:ae)(mg:Str->Option af)(base:cz)(A:bZ)(outer:List Env)(s:ak)(H:Hp):Prop where
 frames:A.frames=some outer
 mod:Mod K mg base
 bs:∀b o,base.get? b=some o->s.heap.get? b=some o/\H b=none
 bsz:base.objs.size<=s.heap.objs.size
 funs:s.heap.FunFrames base outer
 frf:∀b∈frs outer,H b=none
 hok:HOk P w H s.heap
 bare:pY s.gens
def CE(outer:List Env)(P:aN)(w:bL)(H:Hp)(s:ak)(Q:VK)(u:af)(s':ak):Prop:=
 ∃v H',s'.os=s.os/\pY s'.gens/\Un (frs outer) [] H H' s.heap s'.heap/\HOk P w H' s'.heap/\RelV v u/\Q v H'
def CR(CX:CXT)(outer:List Env)(P:aN)(w:bL)(H:Hp)(s:ak)(Q:VK)(E:XK)(r:Nb)(s':ak):Prop:=
 match r with
 |.ok (.ret u)=>CE outer P w H s Q u s'
 |.ok _=>False
 |.error e=>CX outer H s E e s'
structure bA(P:aN)(w:bL)(K:ae)(mg:Str->Option af)(base:cz)(CX:CXT)(k:Nat)(f:aa)(fd:bR)(ps:List Str)(sp:Sp):Prop where
 len:∀vs H Q E,sp vs H Q E->vs.length=ps.length
 run:∀(A:bZ) (outer:List Env) (s:ak) (H:Hp) (args:Args) (us:List af) (vs:List V) (Q:VK) (E:XK),cQ k A->yP P w K mg base A outer s H->uH s fd args (ps.zip us)->cX vs us->sp vs H Q E ->
  p4 (bf P w) A (.call (.ref f) args) (CR CX outer P w H s Q E) s
theorem yP.make{P:aN}{w:bL}{K:ae}{mg:Str->Option af}{base:cz}{A:bZ}{outer:List Env}{s:ak}{H:Hp}(e:yP P w K mg base A outer s H)(C:aa)(us:List af)(Z:List (Str×af)) :
  yP P w K mg base (A.under (.builtin "type.__call__" {.ref C::us,Z})) outer s H:={by first|exact e.frames|(simpa[zR,Code.envs,AZ,pushEnvs] using e.frames),e.mod,e.bs,e.bsz,e.funs,e.frf,e.hok,e.bare}
section
variable{X:Cx}{pins:List (aa×Obj)}{σ:St}{H:Hp}{s s':ak}
theorem Inv.env0(I:Inv X pins σ H s):yP X.prog X.w X.K X.mg X.base X.A X.stack s H:=
 {I.ok.frames,I.ok.mod,I.bs,dA I.ok.bsz I.sz,I.stack,I.stkFree,I.hok,I.bare}
theorem Inv.after{Q:VK}{u:af}(I:Inv X pins σ H s)(h:CE X.stack X.prog X.w H s Q u s'):EP X pins σ Q u s':=by
 obtain⟨v,H',os,bare,un,hok,r,q⟩:=h;obtain⟨hh,g,d,t,Z⟩:=s';obtain rfl:Z=s.os:=os;exact{v,H',I.call (h':=hh) (g':=g) (d':=d) (t':=t) (ch:=[]) un hok bare (fun b z=>absurd z (by simp)),r,q}
end
def tCall(sp:Sp)(dvs:List V)(E:XK)(t:TA):TE:=fun σ H Q=>t σ H fun vs H1=>sp (vs++dvs) H1 Q E
def Li(C:aa)(m:Str)(sp:Sp)(dvs:List V)(E:XK)(ta:TE)(t:TA):TE:=fun σ H Q=>ta σ H fun x H1=>∃a dx fs,x=.ref a/\H1 a=some (.ins C dx fs)/\fs.lookup m=none /\
 t σ H1 fun vs H2=>sp (x::(vs++dvs)) H2 Q E
def Lj(C:aa)(sp:Sp)(dvs:List V)(E:XK)(t:TA):TE:=fun σ H Q=>t σ H fun vs H1=>∀x dx,H1 x=none->H1 dx=none->dx≠x ->
 sp (.ref x::(vs++dvs)) (upd (upd H1 dx (.own x)) x (.ins C dx [])) (fun v H2=>v=.non/\Q (.ref x) H2) E
def Binds(K:ae)(fd:bR)(ps:List Str)(ds:List af):Prop:=
 ∀(s:ak) (us:List af),K.In s.heap->(us++ds).length=ps.length->uH s fd {us,[]} (ps.zip (us++ds))
theorem Binds.all{K:ae}{fd:bR}{ps:List Str}(h:∀us:List af,us.length=ps.length->Bn fd {us,[]}=pure (ps.zip us)):Binds K fd ps []:=fun s us _ hl=>by
 rw[cv]at hl |-;exact .of_eq (h us hl)
def lH(CX:CXT)(X:Cx)(E:XK):Prop:=∀(pins:List (aa×Obj)) (σ:St) (H:Hp) (s:ak) (e:af) (s':ak),Inv X pins σ H s->CX X.stack H s E e s'->X.xe e s'
section
variable{X:Cx}{CX:CXT}{k:Nat}{f C:aa}{fd:bR}{ps:List Str}{sp:Sp}{dvs:List V}{ds:List af}{E:XK}{x m:Str}{p pos apos:Pos}{e o:cN}{es:List cN}{ta:TE}{t:TA}
theorem Bp{pins:List (aa×Obj)}{σ:St}{H:Hp}{s:ak}{Q:VK}{us:List af}{vs:List V}(F:bA X.prog X.w X.K X.mg X.base CX k f fd ps sp)(hr:cQ k X.A)(hb:Binds X.K fd ps ds)(hd:cX dvs ds)(hx:lH CX X E)
  (I:Inv X pins σ H s) (r:cX vs us) (h:sp (vs++dvs) H Q E):aX (bf X.prog X.w) X.A (xu (.ref f) us) (EP X pins σ Q) X.xe s:=by
 have r2:cX (vs++dvs) (us++ds):=r.append hd;have hl:(us++ds).length=ps.length:=by rw[<- r2.length];exact F.len _ _ _ _ h
 refine wj (kK (F.run X.A X.stack s H {us,[]} (us++ds) (vs++dvs) Q E hr I.env0 (hb s us I.kIn hl) r2 h) fun r s' hq=>?_)
 cases r with
 |error e=>exact hx pins σ H s e s' I hq
 |ok fl=>
  cases fl with
  |ret u=>exact I.after hq
  |next=>exact cI hq
  |brk=>exact cI hq
  |cont=>exact cI hq
theorem aL(F:bA X.prog X.w X.K X.mg X.base CX k f fd ps sp)(hr:cQ k X.A)(V:Gl X x)(hm:X.mg x=some (.ref f))(hk:gF X.K (.ref f)=true)(hb:Binds X.K fd ps ds)(hd:cX dvs ds)(hx:lH CX X E)
  (ha:PA X (e::es) t) (Z:(x==("__debug__":Str))=false:=by decide) (U:cu (e::es) X.env=(false,fg e X.env)::cu es X.env:=by rfl) (Y:(iN pos (cu es X.env)).any (·.1)=false:=by rfl) :
  PE X (.Call (.Name x p) (e::es) [] pos) (tCall sp dvs E t):=by
 intro pins s σ H Q I h;refine gQ (qW I V hm ?_ Z);refine jq (h₀:=X.base) I.ok.mod.kin hk (thn (ha pos pins s σ H _ I h) fun us O ⟨vs,H1,W,r,q⟩=>{W.kIn,?_}) U Y;exact Bp F hr hb hd hx W r q
theorem gf{pl:Sem Bool}(J:PE X o ta)(c:Cls X.K C)(hm:xw X.K C m f)(F:bA X.prog X.w X.K X.mg X.base CX k f fd ps sp)(hr:cQ k X.A)(hb:Binds X.K fd ps ds)(hd:cX dvs ds)(hx:lH CX X E)(ha:PA X (e::es) t)
  (hst:cu (e::es) X.env=(false,fg e X.env)::cu es X.env:=by rfl) (Z:(iN pos (cu es X.env)).any (·.1)=false:=by rfl)
  (ht:fg (.Call (.Attribute o m apos) (e::es) [] pos) X.env=(do
   let V <- fg o X.env
   uC apos.atName
   let (f,first) <- pZ [V] (lG V m pl)
   xx pos f first (iN pos (cu (e::es) X.env)) (mj pos (iM [] X.env))):=by rfl) :
  PE X (.Call (.Attribute o m apos) (e::es) [] pos) (Li C m sp dvs E ta t):=by
 intro pins s σ H Q I h;refine iG (pl:=pl) (thn (J pins s σ H _ I h) fun u M ⟨x,H1,Y,O,a,dx,fs,ex,D,l,q⟩=>?_) ht;subst ex;obtain rfl:u=Value.ref a:=O;refine oP Y D c hm l ?_;refine jq (first:=[.ref a]) (h₀:=X.base) I.ok.mod.kin hm.kp (thn (ha pos pins M σ H1 _ Y q) fun us s2 ⟨vs,H2,W,r,U⟩=>{W.kIn,?_}) hst Z;exact Bp (us:=.ref a::us) (vs:=.ref a::vs) F hr hb hd hx W (.cons rfl r) U
theorem jh{pl:Sem Bool}(V:PE X o ta)(c:Cls X.K C)(hm:xw X.K C m f)(F:bA X.prog X.w X.K X.mg X.base CX k f fd ps sp)(hr:cQ k X.A)(hb:Binds X.K fd ps ds)(hd:cX dvs ds)(hx:lH CX X E)
  (ht:fg (.Call (.Attribute o m apos) [] [] pos) X.env=(do
   let Y <- fg o X.env
   uC apos.atName
   let (f,first) <- pZ [Y] (lG Y m pl)
   xx pos f first (iN pos (cu [] X.env)) (mj pos (iM [] X.env))):=by rfl) :
  PE X (.Call (.Attribute o m apos) [] [] pos) (Li C m sp dvs E ta Bm):=by
 intro pins s σ H Q I h;refine iG (pl:=pl) (thn (V pins s σ H _ I h) fun u O ⟨x,H1,Z,W,a,dx,fs,ex,U,l,q⟩=>?_) ht;subst ex;obtain rfl:u=Value.ref a:=W;refine oP Z U c hm l ?_;exact A0 (first:=[.ref a]) Z.kIn hm.kp (Bp (us:=[.ref a]) (vs:=[.ref a]) F hr hb hd hx Z (.cons rfl .nil) q)
structure Mk(K:ae)(C f:aa):Prop where
 makes:uX K C=true
 init:aU K (.ref C) "__init__"=some (some (.ref f))
 fn:oO K (.ref f)=true
 kp:gF K (.ref C)=true
theorem FH{pins:List (aa×Obj)}{σ:St}{H:Hp}{s:ak}{Q:VK}{us:List af}{vs:List V}(M:Mk X.K C f)(F:bA X.prog X.w X.K X.mg X.base CX k f fd ps sp)(hr:cQ (k+1) X.A)(hb:Binds X.K fd ps ds)(hd:cX dvs ds)
  (hx:lH CX X E) (I:Inv X pins σ H s) (r:cX vs us)
  (h:∀x dx,H x=none->H dx=none->dx≠x->sp (.ref x::(vs++dvs)) (upd (upd H dx (.own x)) x (.ins C dx [])) (fun v H2=>v=.non/\Q (.ref x) H2) E) :
  aX (bf X.prog X.w) X.A (xu (.ref C) us) (EP X pins σ Q) X.xe s:=by
 have hq:=h (s.heap.objs.size+1) s.heap.objs.size (I.hok.fresh (gp _)) (I.hok.fresh (aD _)) (aR (wg _));have Y:=Inv.made (C:=C) I;have r2:cX (V.ref (s.heap.objs.size+1)::(vs++dvs)) (Value.ref (s.heap.objs.size+1)::(us++ds)):=.cons rfl (r.append hd);have hl:(Value.ref (s.heap.objs.size+1)::us++ds).length=ps.length:=by
  have e:=r2.length;rw[F.len _ _ _ _ hq]at e;exact e.symm
 refine wj (FE (f:=f) I.kIn M.makes M.init (beq_iff_eq.mp M.fn) (kK (F.run _ X.stack _ _ {Value.ref (s.heap.objs.size+1)::us,[]} (Value.ref (s.heap.objs.size+1)::(us++ds)) _ _ E (hr.make C us [])
  (Y.env0.make C us []) (hb _ (Value.ref (s.heap.objs.size+1)::us) Y.kIn hl) r2 hq) fun r s' Z=>?_))
 cases r with
 |error e=>exact hx pins σ _ _ e s' Y Z
 |ok fl=>
  cases fl with
  |ret u=>
   obtain⟨v,H',U,O,ev,W⟩:=Y.after Z;subst ev;exact{O,{V.ref (s.heap.objs.size+1),H',U,rfl,W}}
  |next=>exact cI Z
  |brk=>exact cI Z
  |cont=>exact cI Z
theorem jW(M:Mk X.K C f)(F:bA X.prog X.w X.K X.mg X.base CX k f fd ps sp)(hr:cQ (k+1) X.A)(V:Gl X x)(hm:X.mg x=some (.ref C))(hb:Binds X.K fd ps ds)(hd:cX dvs ds)(hx:lH CX X E)
  (ha:PA X (e::es) t) (Z:(x==("__debug__":Str))=false:=by decide) (U:cu (e::es) X.env=(false,fg e X.env)::cu es X.env:=by rfl) (Y:(iN pos (cu es X.env)).any (·.1)=false:=by rfl) :
  PE X (.Call (.Name x p) (e::es) [] pos) (Lj C sp dvs E t):=by
 intro pins s σ H Q I h;refine gQ (qW I V hm ?_ Z);refine jq (h₀:=X.base) I.ok.mod.kin M.kp (thn (ha pos pins s σ H _ I h) fun us O ⟨vs,H1,W,r,q⟩=>{W.kIn,?_}) U Y;exact FH M F hr hb hd hx W r q
end
section
variable{X:Cx}{CX:CXT}{k:Nat}{f C:aa}{fd:bR}{ps ks:List Str}{sp:Sp}{E:XK}{x m:Str}{p pos apos kpos:Pos}{e o:cN}{es:List cN}{kws:List OX}{te ta:TE}{t tk:TA}{nm:Option Str}
variable{g:List af->List af->List af}{gV:List V->List V->List V}
end
structure bM(N P:List Str)(sc:mh):Prop where
 kind:sc.kind=.function:=by rfl
 co:sc.isCoroutine=false:=by rfl
 gen:sc.isGenerator=false:=by rfl
 nd:N.Nodup:=by decide +kernel
 pre:N.take P.length=P:=by rfl
 par:∀x∈P,sc.names.lookup x=some .local\/sc.names.lookup x=some .cell:=by decide +kernel
 nofree:∀y∈sc.names,y.2≠.free:=by decide +kernel
theorem xZ{kindOf:Str->Option kL}{x:Str}:∀{binds:List (Str×af)} {m:Str->Option af},(∀v,(x,v)∉binds)->Fd kindOf binds m x=m x
 | [],_,_=>rfl
 |(n,v)::r,m,h=>by
  unfold Fd;rw[xZ fun w hw=>h w (ah _ hw)]
  split
  ·have:x≠n:=by rintro rfl;exact h v aC
   simp[this]
  ·rfl
theorem x5{kindOf:Str->Option kL}{x:Str}:∀{binds:List (Str×af)} {m:Str->Option af},(∀v,(x,v)∉binds)->Fe kindOf binds m x=m x
 | [],_,_=>rfl
 |(n,v)::r,m,h=>by
  unfold Fe;rw[x5 fun w hw=>h w (ah _ hw)]
  split
  ·rfl
  ·have:x≠n:=by rintro rfl;exact h v aC
   simp[this]
theorem x6{kindOf:Str->Option kL}{x:Str}{v:af}:∀{P:List Str} {vs:List af} {i:Nat} {m:Str->Option af},P.Nodup->P[i]?=some x->vs[i]?=some v->kindOf x=some .local ->
  Fd kindOf (P.zip vs) m x=some v
 | [],_,_,_,_,h,_,_=>by simp at h
 |_::_,[],_,_,_,_,h,_=>by simp at h
 |p::P,w::vs,0,m,nd,h1,h2,hk=>by
  simp at h1 h2;subst h1;subst h2;show Fd kindOf ((p,w)::P.zip vs) m p=_;unfold Fd;rw[xZ fun v hv=>(cG.mp nd).1 (qh hv).1,if_pos hk];simp
 |p::P,w::vs,i+1,m,nd,h1,h2,hk=>by
  show Fd kindOf ((p,w)::P.zip vs) m x=_;unfold Fd;exact x6 (i:=i) (cG.mp nd).2 (by simpa using h1) (by simpa using h2) hk
theorem x8{kindOf:Str->Option kL}{x:Str}{v:af}:∀{P:List Str} {vs:List af} {i:Nat} {m:Str->Option af},P.Nodup->P[i]?=some x->vs[i]?=some v->kindOf x≠some .local ->
  Fe kindOf (P.zip vs) m x=some v
 | [],_,_,_,_,h,_,_=>by simp at h
 |_::_,[],_,_,_,_,h,_=>by simp at h
 |p::P,w::vs,0,m,nd,h1,h2,hk=>by
  simp at h1 h2;subst h1;subst h2;show Fe kindOf ((p,w)::P.zip vs) m p=_;unfold Fe;rw[x5 fun v hv=>(cG.mp nd).1 (qh hv).1,if_neg hk];simp
 |p::P,w::vs,i+1,m,nd,h1,h2,hk=>by
  show Fe kindOf ((p,w)::P.zip vs) m x=_;unfold Fe;exact x8 (i:=i) (cG.mp nd).2 (by simpa using h1) (by simpa using h2) hk
def start(N:List Str)(vs:List V):St:=vs.map some++cD (N.length-vs.length) none
def tY(CX:CXT)(P:aN)(w:bL)(K:ae)(mg:Str->Option af)(base:cz)(N:List Str)(Y:Str)(Z:mh)(f:aa)(V:af)(A:bZ)(outer:List Env)(s:ak)(H:Hp)(E:XK):Cx where
 prog:=P
 w:=w
 K:=K
 mg:=mg
 base:=base
 A:=A.deeper (tZ Y Z s.heap.objs.size f V)
 N:=N
 s₀:=s
 H₀:=H
 env:=tZ Y Z s.heap.objs.size f V
 outer:=outer
 stack:=tZ Y Z s.heap.objs.size f V::outer
 ex:=[]
 calm:=true
 fn:=fun _=>true
 pn:=[]
 xe:=fun e s'=>aX (bf P w) (A.deeper (tZ Y Z s.heap.objs.size f V)) (A1 (tZ Y Z s.heap.objs.size f V) e) (fun _ W=>CX outer H s E e W) (fun U W=>CX outer H s E U W) s'
theorem Ab{sc:mh}{n:Nat}{x:Str}(h:sc.names.lookup x=some .cell):∃c,(Ff n sc.names []).lookup x=some c:=by
 have q:=oQ sc.names n [] (.inl h);exact Option.isSome_iff_exists.mp q
theorem x9{CX:CXT}{P:aN}{w:bL}{K:ae}{mg:Str->Option af}{base:cz}{N ps:List Str}{Y:Str}{Z:mh}{f:aa}{M:af}{A:bZ}{outer:List Env}{s J:ak}{H:Hp}{E:XK}{us:List af}{vs:List V}
  (S:bM N ps Z) (hd:A.handled=none) (W:yP P w K mg base A outer s H) (hl:vs.length=ps.length) (r:cX vs us)
  (x:InCallC s s.heap.objs.size (Fd (tZ Y Z s.heap.objs.size f M).kindOf (ps.zip us) fun _=>none) (Ff (s.heap.objs.size+1) Z.names []) (Fe (tZ Y Z s.heap.objs.size f M).kindOf (ps.zip us) fun _=>none) J) :
  Inv (tY CX P w K mg base N Y Z f M A outer s H E) [] (start N vs) H J:=by
 have D:ps.length<=N.length:=by have:=congrArg jy S.pre;rw[c9]at this;omega
 obtain⟨h1,tk,rfl,hk⟩:=x.done;have U:∀b:aa,b∉(tY CX P w K mg base N Y Z f M A outer s H E).ex:=fun b z=>absurd (show b∈([]:List aa) from z) (by simp);refine⟨{W.mod,S.kind,rfl,rfl,aD _,fun y z c h1 h2=>?_,fun y hy=>?_,fun y c _ h=>?_,fun _=>hd,Around.frames_deeper W.frames,.inr ⟨rfl,rfl⟩,fun b z=>absurd z (U b),W.bs,W.bsz,fun b _ _=>U b,fun b z=>absurd z (U b),W.funs,W.frf},
  rfl,W.bare,Un.kept hk,{_,x.toInCall.ns,fun i y v h1 h2 t=>?_},fun y c h=>{_,x.cell y c h},W.hok.fresh (aD _),fun y c h=>?_,fun p hp=>absurd (show p∈([]:List (aa×Obj)) from hp) (by simp),W.hok.kept hk,?_⟩
 ·exact name_of_addr x.apart (gy h1) (gy h2)
 ·have hy:Z.names.lookup y=some .cell\/Z.names.lookup y=some .free:=hy
  rcases hy with hy|hy
  ·exact Ab hy
  ·exact absurd rfl (S.nofree _ (gy hy))
 ·exact jR (x.above y c (gy h))
 ·have hi:i<vs.length:=by
   unfold start at h2
   by_cases hi:i<vs.length
   ·exact hi
   ·rw[df (by simpa using hi)]at h2;rw[pJ]at h2
    split at h2<;>cases h2
  have ha:vs[i]?=some v:=by
   unfold start at h2;rw[eO (by simpa using hi),cC]at h2
   cases e:vs[i]? with
   |none=>rw[e]at h2;cases h2
   |some a=>rw[e]at h2;cases h2;rfl
  obtain⟨u,hu,I⟩:=r.get ha;have hp:ps[i]?=some y:=by
   rw[<- S.pre,zS (by omega)];exact h1
  have O:ps.Nodup:=by rw[<- S.pre];exact S.nd.sublist (nU _ _)
  refine{u,I,?_}
  rcases S.par y (cq hp) with k|k
  ·exact .inl {k,x6 O hp hu k}
  ·obtain⟨c,e⟩:=Ab (n:=s.heap.objs.size+1) k;refine .inr {.inl k,c,e,?_};have q:=x.cell y c e;rw[x8 O hp hu (by show Z.names.lookup y≠_;rw[k];decide)]at q;exact q
 ·exact W.hok.fresh (jR (x.above y c (gy h)))
 ·unfold start;show _=N.length;rw[aA,ao,j9];omega
theorem Ll{CX:CXT}{P:aN}{w:bL}{K:ae}{mg:Str->Option af}{base:cz}{k:Nat}{f:aa}{name Y:Str}{U:Arguments}{O:List cT}{Z:mh}{dV kV bW pm W ct oc:af}{an od:Option aa}
  {bG:Array (Option af)} {N ps:List Str} {sp:Sp} (lk:K.lookup f=some {oc,od,.func (fi name Y U O Z dV kV bW pm an W ct),bG}) (bF:jz K W Y=true) (S:bM N ps Z)
  (len:∀vs H Q E,sp vs H Q E->vs.length=ps.length)
  (D:∀(A:bZ) (outer:List Env) (s:ak) (H:Hp) (vs:List V) (Q:VK) (E:XK),cQ k (A.deeper (tZ Y Z s.heap.objs.size f W))->sp vs H Q E ->
   ∃t,PSs (tY CX P w K mg base N Y Z f W A outer s H E) O t/\t {nx:=fun _ H'=>Q .non H',rt:=Q} (start N vs) H) :
  bA P w K mg base CX (k+1) f (fi name Y U O Z dV kV bW pm an W ct) ps sp:=by
 refine{len,fun A outer s H args us vs Q E hr g hb r bI=>?_};have hl:=len _ _ _ _ bI;have KX:K.In s.heap:=g.mod.kin.keeps fun b o e=>(g.bs b o e).1;have bH:s.heap.NoLimit:=g.mod.nolimit.keeps fun b o e=>(g.bs b o e).1;have z:∀y∈ps.zip us,Z.names.lookup y.1=some .local\/(Z.names.lookup y.1=some .cell/\((Ff (s.heap.objs.size+1) Z.names []).lookup y.1).isSome=true):=fun⟨n,v⟩ hy=>by
  rcases S.par n (qh hy).1 with q|q
  ·exact .inl q
  ·exact .inr {q,oQ _ _ _ (.inl q)}
 refine IS hr.depth (KX _ _ lk) rfl S.co S.gen rfl (Bq KX bF) (hb _ _ _ _ ?_);refine Br S.kind z fun env he s1 x=>?_;subst he;refine{bH.keeps x.toInCall.keep,codeAny_func ?_};obtain⟨t,ht,hq⟩:=D A outer s H vs Q E (hr.deeper _) bI;have I:Inv (tY CX P w K mg base N Y Z f W A outer s H E) [] (start N vs) H s1:=x9 S hr.hd g hl r x;refine eu (ht [] s1 (start N vs) H _ I hq) (fun fl s' hs=>?_) fun e s' hs=>hs;have fin:∀{M:St} {H':Hp} {v:V} {u:af},Inv (tY CX P w K mg base N Y Z f W A outer s H E) [] M H' s'->RelV v u->Q v H'->CE outer P w H s Q u s':=
  fun {M H' v u} J rv q=>⟨v,H',J.os,J.bare,J.base,J.hok,rv,q⟩
 cases fl with
 |ret u=>
  obtain⟨v,M,H',J,rv,q⟩:=hs;exact fin J rv q
 |next=>
  obtain⟨M,H',J,q⟩:=hs;exact fin (v:=V.non) (u:=Value.none) J rfl q
 |brk=>
  obtain⟨_,_,_,q⟩:=hs;exact cI q
 |cont=>
  obtain⟨_,_,_,q⟩:=hs;exact cI q
section
variable{X:Cx}{x:Str}{p pos:Pos}{e:cN}{es:List cN}{t:TA}{id T:String}{r:List V->Hp->VK->Prop}
def tCB(r:List V->Hp->VK->Prop)(t:TA):TE:=fun σ H Q=>t σ H fun vs H1=>r vs H1 Q
theorem cS(hc:lF X (.builtin id) r)(V:Gl X x)(hm:X.mg x=none)(hv:eQ x=some (.builtin id))(ha:PA X (e::es) t)(U:x≠"__name__":=by decide)(Z:(x==("__debug__":Str))=false:=by decide)
  (M:cu (e::es) X.env=(false,fg e X.env)::cu es X.env:=by rfl) (Y:(iN pos (cu es X.env)).any (·.1)=false:=by rfl):PE X (.Call (.Name x p) (e::es) [] pos) (tCB r t):=by
 intro pins s σ H Q I h;refine gQ (p8 I V hm hv ?_ U Z);exact PyProof.Rows.callWith_builtin1 (thn (ha pos pins s σ H _ I h) fun us O ⟨vs,H1,W,r1,J⟩=>hc pins O σ H1 vs us Q W r1 J) M Y
theorem hJ(hc:lF X (.type T) r)(V:Gl X x)(hm:X.mg x=none)(hv:eQ x=some (.type T))(ha:PA X (e::es) t)(U:x≠"__name__":=by decide)(Z:(x==("__debug__":Str))=false:=by decide)
  (M:cu (e::es) X.env=(false,fg e X.env)::cu es X.env:=by rfl) (Y:(iN pos (cu es X.env)).any (·.1)=false:=by rfl):PE X (.Call (.Name x p) (e::es) [] pos) (tCB r t):=by
 intro pins s σ H Q I h;refine gQ (p8 I V hm hv ?_ U Z);exact gk (thn (ha pos pins s σ H _ I h) fun us O ⟨vs,H1,W,r1,J⟩=>hc pins O σ H1 vs us Q W r1 J) M Y
end
end L2
namespace HT
open PySem PyProof.Rows
def lexLt:List Int->List Int->Bool
 | [],[]=>false
 | [],_::_=>true
 |_::_,[]=>false
 |x::xs,y::ys=>if x=y then lexLt xs ys else decide (x<y)
theorem lexLt_cons(x y:Int)(xs ys:List Int):lexLt (x::xs) (y::ys)=if x=y then lexLt xs ys else decide (x<y):=rfl
theorem m8:lexLt [] []=false:=rfl
theorem lI(y:Int)(ys:List Int):lexLt [] (y::ys)=true:=rfl
theorem lJ(x:Int)(xs:List Int):lexLt (x::xs) []=false:=rfl
theorem wx(A:bZ)(s:ak)(a:Int)(t:Tok)(c:Int)(u:Tok):∃e,xA A s (.int a t) (.int c u) e/\(e=true↔a=c):=
 {(a==c),qY a t c u,by simp}
theorem FJ(A:bZ)(s:ak)(a:Int)(t:Tok)(c:Int)(u:Tok)(prog:aN)(w:bL)(E:af->ak->Prop)(Q:af->ak->Prop)(h:Q (.bool (decide (a<c))) s) :
  aX (bf prog w) A (p5 .Lt (.int a t) (.int c u)) Q E s:=
 (PyProof.Rows.lt_int h:aX (bf prog w) A (cU .Lt (.int a t) (.int c u)) Q E s)
section
open PySem.SeqAt
open PySem.AutoSeq1 (wpAny_loadPart')
open PySem.MeetsSeq PySem.MeetsSeq2 PySem.MeetsSeq3
theorem xB(l b:aa)(items Z:Array af)(n n2:Nat)(dd bW:Option aa)(sl ca:Array (Option af))(ns ms:List Int)(hi:dN items.toList ns)(hj:dN Z.toList ms) :
  Meets (iB.«tuple.__lt__» {[.ref l,.ref b],[]})
   (fun _ R s=>s.heap.get? l=some {cls:=.type "tuple",dict:=dd,data:=.seq items n,slots:=sl}/\s.heap.get? b=some {cls:=.type "tuple",dict:=bW,data:=.seq Z n2,slots:=ca} /\
    R (.ok (.ret (.bool (lexLt ns ms)))) s):=
 .of_wp fun prog w A R s h=>by
  obtain⟨hp,g,d,tk,os⟩:=s;obtain⟨hl,hb,h⟩:=h;have f2:=jd;have z1:items.size=ns.length:=by rw[<- hi.length];simp
  have z2:Z.size=ms.length:=by rw[<- hj.length];simp
  wp_walk using dy hl,dy hb,lL _ (fun rest b s'=>b.1=none/\s'=⟨hp,g,d,tk,os⟩/\∃(vs ws:List af) (W V:List Int),rest=vs.zip ws /\
   dN vs W/\dN ws V/\W.length+Z.size=V.length+items.size/\R (.ok (.ret (.bool (lexLt W V)))) ⟨hp,g,d,tk,os⟩) _
  case turn=>
   rintro⟨y,x⟩ rest b s' ⟨I,rfl,vs,ws,W,V,O,H,U,Y,J⟩
   cases H with
   |nil=>rw[uI]at O;cases O
   |cons a t z=>
    cases U with
    |nil=>rw[tM]at O;cases O
    |cons c u cd=>
     rw[eZ]at O;injection O with bH D;injection bH with hy hx;subst hy hx;rw[lexLt_cons]at J;simp only[aT]at Y;obtain⟨e,he,M⟩:=wx A.in1 ⟨hp,g,d,tk,os⟩ a t c u;refine ax (he prog w _ _ ?_)
     cases e with
     |true=>
      rw[if_pos (M.mp rfl)]at J
      wp_walk
      exact{rfl,rfl,_,_,_,_,D,z,cd,by omega,J}
     |false=>
      rw[if_neg (fun q=>absurd (M.mpr q) aW)]at J;have bI:=FJ A.in1 ⟨hp,g,d,tk,os⟩ a t c u prog w
      wp_walk using bI
      exact{_,rfl,by simpa using J}
  case fin=>
   rintro⟨b1,b2⟩ s' ⟨I,rfl,vs,ws,W,V,O,H,U,Y,J⟩;simp only at I;subst I;have hv:lexLt W V=decide (items.size<Z.size):=by
    cases H with
    |nil=>
     cases U with
     |nil=>
      simp only[cw]at Y;rw[m8];exact (decide_eq_false (by omega)).symm
     |cons c u hw=>
      simp only[cw,aT]at Y;rw[lI];exact (decide_eq_true (by omega)).symm
    |cons a t hv=>
     cases U with
     |nil=>
      simp only[cw,aT]at Y;rw[lJ];exact (decide_eq_false (by omega)).symm
     |cons c u hw=>
      rw[eZ]at O
      cases O
   rw[hv]at J
   wp_walk
   exact{_,rfl,by simpa[jr] using J}
  case h=>
   exact{rfl,rfl,items.toList,Z.toList,ns,ms,rfl,hi,hj,by omega,h}
end
section
variable{prog:aN}{w:bL}{A:bZ}{E:af->ak->Prop}{s:ak}
theorem lt_tupInts{l b:aa}{items Z:Array af}{ns ms:List Int}{Q:af->ak->Prop}(hl:rY s.heap l items)(hb:rY s.heap b Z)(hi:dN items.toList ns)(I:dN Z.toList ms)
  (hu:A.units<eK) (h:Q (.bool (lexLt ns ms)) s):aX (bf prog w) A (cU .Lt (.ref l) (.ref b)) Q E s:=by
 obtain⟨⟨cls,dd,data,sl⟩,ho,hc,n,hd⟩:=id hl;obtain⟨⟨J,M,O,U⟩,V,Y,n2,W⟩:=id hb;simp only at hc hd Y W;subst hc hd Y W;exact kM (op:=.Lt) {_,ho,rfl} {_,V,rfl} PySem.F.slot_tuple_lt PySem.F.entry_tuple_lt (PySem.F.args_tuple_lt_2 _ _) (xB l b items Z n n2 dd M sl U ns ms hi I)
  {ho,V,show Value.bool (lexLt ns ms)≠Value.notImplemented/\Q (.bool (lexLt ns ms)) s from{(fun x=>nomatch x),h}} hu
theorem cat_tup{t b:aa}{vs Z:List af}{Q:af->ak->Prop}(ht:rY s.heap t vs.toArray)(hb:rY s.heap b Z.toArray)(hv:vs≠[])
  (h1:Z=[]->Q (.ref t) s) (h2:Z≠[]->Q (.ref s.heap.objs.size) {s with heap:=s.heap.push {cls:=.type "tuple",data:=.seq (vs++Z).toArray}})
  (hsz:vs.length+Z.length<=aB):aX (bf prog w) A (iE .Add (.ref t) (.ref b)) Q E s:=by
 obtain⟨⟨cls,dd,data,sl⟩,ho,hc,n,hd⟩:=id ht;obtain⟨⟨J,U,M,W⟩,Y,V,n2,O⟩:=id hb;simp only at hc hd V O;subst hc hd V O;have e:vs.toArray++Z.toArray=(vs++Z).toArray:=by simp
 by_cases hw:Z=[]
 ·exact concat_meets {_,ho,rfl} {_,Y,rfl} noFill_tuple_add seq_tuple_add yQ ya (xC _ _)
   (tuple_addW1 t b vs.toArray Z.toArray n n2 dd U sl W (by simpa using hv) (by simp[hw])) {ho,Y,h1 hw}
 ·refine concat_meets {_,ho,rfl} {_,Y,rfl} noFill_tuple_add seq_tuple_add yQ ya (xC _ _)
   (tuple_addW2 t b vs.toArray Z.toArray n n2 dd U sl W (by simpa using hv) (by simpa using hw) (by rw[aH,aH];exact hsz)) {ho,Y,?_}
  rw[e];exact h2 hw
def sIx(n d:Nat):Option Int->Nat
 |none=>d
 |some v=>if v<0 then (v+(n:Int)).toNat else min v.toNat n
theorem sIx_none(n d:Nat):sIx n d none=d:=rfl
theorem sIx_nat(n d k:Nat):sIx n d (some (k:Int))=min k n:=by
 show (if (k:Int)<0 then ((k:Int)+(n:Int)).toNat else min (k:Int).toNat n)=min k n;rw[if_neg (by omega),uY]
end
end HT
namespace L2
open PySem PySem.Spec PyProof.Rows
abbrev TO:=St->Hp->(Option Int->Hp->Prop)->Prop
def PO(X:Cx)(e:Option cN)(t:TO):Prop:=
 ∀(pins:List (aa×Obj)) (s:ak) (σ:St) (H:Hp) (Q:Option Int->Hp->Prop),Inv X pins σ H s->t σ H Q ->
  aX (bf X.prog X.w) X.A (evalPart e X.env) (fun u s'=>∃o H',Inv X pins σ H' s'/\IsPart u o/\Q o H') X.xe s
def Jp:TO:=fun _ H Q=>Q none H
def tPart(t:TE):TO:=fun σ H Q=>t σ H fun x H1=>∃i,x=.int i/\Q (some i) H1
theorem intsAre_of{ns:List Int}:∀{us:List af},cX (ns.map V.int) us->dN us ns:=by
 induction ns with
 |nil=>intro us r;rw[uJ]at r;cases r;exact .nil
 |cons n ns Z=>
  intro us r;rw[b9]at r
  cases r with
  |cons r1 r2=>
   obtain⟨t,e⟩:=r1;subst e;exact .cons n t (Z r2)
section
variable{X:Cx}{e:cN}{te:TE}{lo hi:Option cN}{tl th:TO}{pos p2:Pos}
theorem vn:PO X none Jp:=by
 intro pins s σ H Q I h;rw[evalPart_none];exact bK {none,H,I,.none,h}
theorem vp(h:PE X e te):PO X (some e) (tPart te):=by
 intro pins s σ H Q I hw;rw[evalPart_some];refine thn (h pins s σ H _ I hw) fun u W ⟨x,H1,Z,r1,Y⟩=>?_;obtain⟨i,rfl,q⟩:=Y;obtain⟨t,rfl⟩:=r1;exact{some i,H1,Z,.int i t,q}
def SlR(X:Cx)(r:V->Option Int->Option Int->Hp->VK->Prop):Prop:=
 ∀(pins:List (aa×Obj)) (s:ak) (σ:St) (H:Hp) (x:V) (v Y Z:af) (lo hi:Option Int) (sl:aa) (Q:VK),Inv X pins σ H s->RelV x v->s.heap.IsSliceOf sl Y Z .none->IsPart Y lo->IsPart Z hi->r x lo hi H Q ->
  ∃T id,Nd (.type T) "__getitem__"=pure (some (.builtin id))/\s.TypeIs v T/\aX (bf X.prog X.w) X.A (A2 v (.ref sl)) (EP X pins σ Q) X.xe s
def tSl(r:V->Option Int->Option Int->Hp->VK->Prop)(te:TE)(tl th:TO):TE:=fun σ H Q=>te σ H fun x H1=>tl σ H1 fun l H2=>th σ H2 fun u Z=>r x l u Z Q
theorem sN{r:V->Option Int->Option Int->Hp->VK->Prop}(hr:SlR X r)(he:PE X e te)(hl:PO X lo tl)(hu:PO X hi th):PE X (.Subscript e (.Slice lo hi none p2) pos) (tSl r te tl th):=by
 intro pins s σ H Q I h;refine Nf (thn (he pins s σ H _ I h) fun v g ⟨x,H1,O,r1,q1⟩=>?_);refine wpAny_Slice (thn (hl pins g σ H1 _ O q1) fun Y s2 ⟨l,H2,J,pl,M⟩=>thn (hu pins s2 σ H2 _ J M) fun W Z ⟨u,U,I3,pu,q3⟩=>?_);rw[evalPart_none];refine bK ?_;have z:Inv X pins σ U {Z with heap:=Z.heap.push {cls:=.type "slice",data:=.fields #[Y,W,.none]}}:=I3.kept (t':=Z.toks) fun b ob q=>aJ _ q;obtain⟨T,id,t,ht,D⟩:=hr pins {Z with heap:=Z.heap.push {cls:=.type "slice",data:=.fields #[Y,W,.none]}} σ U x v Y W l u Z.heap.objs.size Q z r1 (OY ..) pl pu q3;show aX (bf X.prog X.w) X.A (Ep e (.Slice lo hi none p2) v (.ref Z.heap.objs.size)) (EP X pins σ Q) X.xe {Z with heap:=Z.heap.push {cls:=.type "slice",data:=.fields #[Y,W,.none]}};exact tail_any (ops:=[.ref Z.heap.objs.size,v]) ht t D (by with_unfolding_all rfl)
def rD(xs:List V)(lo hi:Option Int):List V:=(xs.drop (HT.sIx xs.length 0 lo)).take (HT.sIx xs.length xs.length hi-HT.sIx xs.length 0 lo)
theorem uK(xs:List V)(lo hi:Option Int):(rD xs lo hi).length<=xs.length:=by
 unfold rD;rw[c9,je];omega
def rCatT(K:ae):R2:=fun x y H Q=>∃a b xs ys,x=.ref a/\y=.ref b/\SqT K H a xs/\SqT K H b ys/\xs≠[]/\xs.length+ys.length<=aB /\
 (ys=[]->Q (.ref a) H)/\(ys≠[]->∀p,H p=none->Q (.ref p) (upd H p (.tup (xs++ys))))
theorem cX.nil_iff{xs:List V}{us:List af}(r:cX xs us):us=[]↔xs=[]:=by
 cases r with
 |nil=>simp
 |cons _ _=>simp
theorem Jq:OpR X (iE .Add) (rCatT X.K):=by
 intro pins s σ H x y v u Q I V U h;obtain⟨a,b,xs,ys,rfl,rfl,ha,hb,hx,Y,M,W⟩:=h
 cases V
 cases U;obtain⟨J,r1,O,_⟩:=I.tuple ha;obtain⟨Z,r2,p2,_⟩:=I.tuple hb;refine HT.cat_tup O p2 (fun z=>hx (r1.nil_iff.mp z)) (fun z=>{.ref a,H,I,rfl,M (r2.nil_iff.mp z)}) (fun z=>?_) (by rw[<- r1.length,<- r2.length];exact Y);refine{.ref s.heap.objs.size,_,I.laid (t':=s.toks) (o:=.tup (xs++ys)) (fun b ob q=>aJ _ q) (aD _) ?_,rfl,W (fun w=>z (r2.nil_iff.mpr w)) _ (I.hok.fresh (aD _))};exact{by rw[aA];exact Y,_,r1.append r2,IsTup.new _ _}
end
def ixN(n:Nat)(i:Int):Option Nat:=if 0<=i then (if i<n then some i.toNat else none) else if -(n:Int)<=i then some (i+n).toNat else none
def atI{Z:Type}(xs:List Z)(i:Int):Option Z:=(ixN xs.length i).bind fun j=>xs[j]?
theorem yR{n:Nat}{i:Int}{j:Nat}(h:ixN n i=some j):seqIndex? i n=some j/\j<n/\-(n:Int)<=i/\i<n:=by
 unfold ixN at h
 by_cases h0:0<=i
 ·rw[if_pos h0]at h
  by_cases h1:i<n
  ·rw[if_pos h1]at h;have e:i.toNat=j:=dM h;exact{by rw[Jr h0 h1,e],by omega,by omega,h1}
  ·rw[if_neg h1]at h;cases h
 ·rw[if_neg h0]at h
  by_cases h1:-(n:Int)<=i
  ·rw[if_pos h1]at h;have e:(i+n).toNat=j:=dM h;exact{by rw[FK (by omega) h1,e],by omega,h1,by omega}
  ·rw[if_neg h1]at h;cases h
theorem yS{Z:Type}{xs:List Z}{i:Int}{v:Z}(h:atI xs i=some v):∃j,seqIndex? i xs.length=some j/\xs[j]?=some v/\j<xs.length/\-(xs.length:Int)<=i/\i<xs.length:=by
 unfold atI at h
 cases e:ixN xs.length i with
 |none=>rw[e]at h;cases h
 |some j=>
  rw[e]at h;obtain⟨h1,h2,W,Y⟩:=yR e;exact⟨j,h1,h,h2,W,Y⟩
theorem ij{Z:Type}{xs:List Z}{j:Nat}{v:Z}(h:xs[j]?=some v):atI xs (j:Int)=some v:=by
 have Y:j<xs.length:=(aG.mp h).1;have e:ixN xs.length (j:Int)=some j:=by
  unfold ixN;rw[if_pos (by omega),if_pos (by omega)];simp
 unfold atI;rw[e];exact h
def Js(b:cN):Prop:=∀o i,zT b false o i=operate [o,i] (A2 o i)
def IxR(X:Cx)(r:R2):Prop:=
 ∀(value Z:cN) (pins:List (aa×Obj)) (s:ak) (σ:St) (H:Hp) (x y:V) (v u:af) (Q:VK),Inv X pins σ H s->RelV x v->RelV y u->r x y H Q ->
  zT Z false v u=operate [v,u] (A2 v u)->aX (bf X.prog X.w) X.A (Ep value Z v u) (EP X pins σ Q) X.xe s
def MtR(X:Cx)(id:String)(r:V->List V->Hp->VK->Prop):Prop:=
 ∀(pins:List (aa×Obj)) (s:ak) (σ:St) (H:Hp) (x:V) (xs:List V) (v:af) (us:List af) (Q:VK),Inv X pins σ H s->RelV x v->cX xs us->r x xs H Q ->
  aX (bf X.prog X.w) X.A (xu (.builtin id) (v::us)) (EP X pins σ Q) X.xe s
section
variable{X:Cx}{a b:cN}{ta tb:TE}{pos:Pos}
theorem bP{r:R2}(hr:IxR X r)(ha:PE X a ta)(hb:PE X b tb)(hs:Js b):PE X (.Subscript a b pos) (tOp r ta tb):=by
 intro pins s σ H Q I h;exact Nf (M7 ha hb I h fun v u s2 x y H2 Y Z W q=>hr a b pins s2 σ H2 x y v u Q Y Z W q (hs _ _))
inductive RIxL(K:ae)(x y:V)(H:Hp)(Q:VK):Prop where
 |mk(p:aa)(xs:List V)(i:Int)(v:V)(hx:x=.ref p)(hy:y=.int i)(s:SqL K H p xs)(e:atI xs i=some v)(q:Q v H):RIxL K x y H Q
def Ng(K:ae):R2:=fun x y H Q=>RIxL K x y H Q
inductive RIxT(K:ae)(x y:V)(H:Hp)(Q:VK):Prop where
 |mk(p:aa)(xs:List V)(i:Int)(v:V)(hx:x=.ref p)(hy:y=.int i)(s:SqT K H p xs)(e:atI xs i=some v)(q:Q v H):RIxT K x y H Q
def rIxT(K:ae):R2:=fun x y H Q=>RIxT K x y H Q
def rIxS:R2:=fun x y H Q=>∃z i c,x=.str z/\y=.int i/\z.length<=aB/\atI z.cps.toList i=some c/\Q (.str {#[c]}) H
theorem cJ:IxR X (Ng X.K):=by
 intro value W pins s σ H x y v u Q I O J h hs;obtain⟨p,xs,i,z,rfl,rfl,hq,D,q⟩:=h
 cases O;obtain⟨t,rfl⟩:=J;obtain⟨V,r,pl,hz⟩:=I.list hq;obtain⟨j,h1,h2,h3,M,g⟩:=yS D;obtain⟨w,U,Z⟩:=r.get h2;have hl:=r.length;have hn:=tV;have fin:EP X pins σ Q w s:=⟨z,H,I,Z,q⟩
 by_cases h0:0<=i
 ·have Y:i.toNat=j:=by
   rw[Jr h0 g]at h1;exact dM h1
  exact item_listR pl.isList h0 (by omega) (by rw[Y];simpa using U) fin hs
 ·have Y:(i+(V.toArray.size:Int)).toNat=j:=by
   rw[FK (by omega) M]at h1;rw[aH,<- hl];exact dM h1
  exact FL (x:=w) pl.isList.typeIs OZ.lookup
   (wpAny_getItem_list_neg (Q:=fun r s'=>r=w/\EP X pins σ Q r s') pl.isList (by omega) (by rw[aH]<;>omega) (by omega) (by rw[Y];simpa using U) ⟨rfl,fin⟩) hs
theorem cF:IxR X (rIxT X.K):=by
 intro value Y pins s σ H x y v u Q I V U h hs;obtain⟨p,xs,i,z,rfl,rfl,hq,O,q⟩:=h
 cases V;obtain⟨t,rfl⟩:=U;obtain⟨M,r,pl,hz⟩:=I.tuple hq;obtain⟨j,h1,h2,h3,D,g⟩:=yS O;obtain⟨w,W,Z⟩:=r.get h2;have hl:=r.length;have J:=tV;have fin:EP X pins σ Q w s:=⟨z,H,I,Z,q⟩;exact FL (x:=w) pl.typeIs slot_tuple_getitem.lookup
  (getItem_tuple (j:=j) (Q:=fun r s'=>r=w/\EP X pins σ Q r s') pl (by omega) (by omega) (by rw[aH,<- hl];exact h1) (by simpa using W) ⟨rfl,fin⟩) hs
theorem FM:IxR X rIxS:=by
 intro value Z pins s σ H x y v u Q I Y U h hs;obtain⟨z,i,c,rfl,rfl,D,O,q⟩:=h;obtain⟨t,rfl⟩:=Y;obtain⟨t',rfl⟩:=U;obtain⟨j,h1,h2,g,V,M⟩:=yS O;have hl:z.cps.toList.length=z.length:=by simp[Str.length]
 rw[hl]at h1 V M;have J:=tV;exact tail_any (typeIs_str s z t) slot_str_getitem.lookup (getItem_str (c:=c) (by
  have e1:decide (i < -(2^63:Int))=false:=decide_eq_false (by omega);have W:decide (i≥2^63)=false:=decide_eq_false (by omega);rw[e1,W,Bool.or_false]) (by rw[h1];simpa using h2) {.str {#[c]},H,I.tok _,{_,rfl},q}) hs
theorem Bs(Z:List af)(n j:Nat)(u:af):dh (·.setIfInBounds j u) {cls:=.type "list",data:=.seq Z.toArray n}={cls:=.type "list",data:=.seq (Z.set j u).toArray n}:=by
 simp[dh]
theorem Inv.lst{pins:List (aa×Obj)}{σ:St}{H:Hp}{s:ak}{p:aa}{xs:List V}(I:Inv X pins σ H s)(h:H p=some (.lst xs)) :
  ∃(Z:List af) (n:Nat),cX xs Z/\s.heap.get? p=some {cls:=.type "list",data:=.seq Z.toArray n}/\xs.length<=aB:=by
 obtain⟨z,Z,n,r,e⟩:=I.hok p _ h;exact⟨Z,n,r,e,z⟩
theorem Inv.lstUpd{pins:List (aa×Obj)}{σ:St}{H:Hp}{s:ak}{p:aa}{xs ys:List V}{Z its':List af}{n Y:Nat}{f:Obj->Obj}(I:Inv X pins σ H s)(h:H p=some (.lst xs))
  (ho:s.heap.get? p=some {cls:=.type "list",data:=.seq Z.toArray n}) (W:f {cls:=.type "list",data:=.seq Z.toArray n}={cls:=.type "list",data:=.seq its'.toArray Y}) (r:cX ys its') (U:ys.length<=aB) (t:Nat) :
  Inv X pins σ (upd H p (.lst ys)) {s with heap:=s.heap.update p f,toks:=t}:=by
 have e:(s.heap.update p f).get? p=some {cls:=.type "list",data:=.seq its'.toArray Y}:=by
  rw[qZ f ho (by rw[W]<;>rfl),W]
 refine I.write (x:=p) (e:=p) (by rw[h];trivial) (.inl rfl) (fun b u hb q=>(fV _ _ (gj hb)).trans q) {_,e} ?_;exact⟨U,its',Y,r,e⟩
def rSetL:V->V->V->Hp->(Hp->Prop)->Prop:=fun o i v H Q=>∃p xs k j,o=.ref p/\i=.int k/\H p=some (.lst xs)/\ixN xs.length k=some j/\Q (upd H p (.lst (xs.set j v)))
theorem nV:PSet X rSetL:=by
 intro pins s σ H o i v ov g u Q I M O D h;obtain⟨p,xs,k,j,rfl,rfl,hp,J,q⟩:=h
 cases M;obtain⟨t,rfl⟩:=O;obtain⟨Z,n,r,ho,z⟩:=I.lst hp;obtain⟨h1,h2,U,V⟩:=yR J;have hl:=r.length;have hn:=tV;have Y:Inv X pins σ (upd H p (.lst (xs.set j v))) {s with heap:=s.heap.update p (dh (·.setIfInBounds j u))}:=
  I.lstUpd hp ho (Bs Z n j u) (r.set D j) (by rw[Jt];exact z) s.toks
 by_cases h0:0<=k
 ·have hk:k.toNat=j:=by
   rw[Jr h0 V]at h1;exact dM h1
  exact PySem.W.ki_setAt ho h0 (by omega) (by rw[aH,<- hl];exact V) (by rw[hk];exact{_,Y,q})
 ·have hk:(k+(Z.toArray.size:Int)).toNat=j:=by
   rw[FK (by omega) U]at h1;rw[aH,<- hl];exact dM h1
  exact PySem.W.ki_setBack ho (by omega) (by rw[aH,<- hl];exact U) (by omega) (by rw[hk];exact{_,Y,q})
theorem yT(lo hi:Option Int)(n:Nat):(mw lo hi none n).1=((HT.sIx n 0 lo:Nat):Int)/\(mw lo hi none n).2.1=((HT.sIx n n hi:Nat):Int)/\(mw lo hi none n).2.2=1:=by
 refine{?_,?_,rfl}
 ·cases lo with
  |none=>simp[mw,HT.sIx]
  |some i=>
   simp only[mw,HT.sIx,Fg,show (1:Int)>0 by decide,if_true]
   by_cases h:i<0
   ·simp only[h,if_true]<;>omega
   ·simp only[h,if_false]<;>omega
 ·cases hi with
  |none=>simp[mw,HT.sIx]
  |some i=>
   simp only[mw,HT.sIx,Fg,show (1:Int)>0 by decide,if_true]
   by_cases h:i<0
   ·simp only[h,if_true]<;>omega
   ·simp only[h,if_false]<;>omega
theorem xE(Z:List af)(lo hi:Option Int):slicePick Z.toArray lo hi none=((Z.drop (HT.sIx Z.length 0 lo)).take (HT.sIx Z.length Z.length hi-HT.sIx Z.length 0 lo)).toArray:=by
 obtain⟨h1,h2,Y⟩:=yT lo hi Z.toArray.size;unfold slicePick;rw[h1,h2,Y];simp only[sliceRange_one,pick_run,aH]<;>rfl
def rSlL(K:ae):V->Option Int->Option Int->Hp->VK->Prop:=fun x lo hi H Q=>∃a xs,x=.ref a/\SqL K H a xs/\∀p,H p=none->Q (.ref p) (upd H p (.lst (rD xs lo hi)))
theorem vt:SlR X (rSlL X.K):=by
 intro pins s σ H x v O U lo hi sl Q I Y hs pl pu h;obtain⟨a,xs,rfl,hx,q⟩:=h
 cases Y;obtain⟨V,r,ht,W⟩:=I.list hx;have Z:=r.length;refine{"list",_,OZ.lookup,ht.isList.typeIs,?_};refine wpAny_getItem_list_slice ht.isList hs pl pu .none (by simp) ?_ (by rw[aH]<;>omega);rw[xE,<- Z];refine{.ref s.heap.objs.size,_,I.laid (t':=s.toks) (o:=.lst (rD xs lo hi)) (fun b ob q=>aJ _ q) (aD _) ?_,rfl,q _ (I.hok.fresh (aD _))};exact{dA (uK xs lo hi) W,_,0,(r.drop (HT.sIx xs.length 0 lo)).take (HT.sIx xs.length xs.length hi-HT.sIx xs.length 0 lo),cy _ rfl}
def sO:V->Bool
 |.non=>true
 |.bl _=>true
 |.int _=>true
 |.str _=>true
 |_=>false
def eqV:V->V->Bool
 |.non,.non=>true
 |.bl a,.bl b=>a==b
 |.bl a,.int b=>(if a then 1 else 0)==b
 |.int a,.bl b=>a==(if b then 1 else 0)
 |.int a,.int b=>a==b
 |.str a,.str b=>a==b
 |_,_=>false
theorem Nh{A:bZ}{s:ak}{y x:V}{u v:af}(W:RelV y u)(Z:RelV x v)(U:sO y=true)(Y:sO x=true):xA A s u v (eqV y x):=by
 cases y with
 |non=>
  cases W
  cases x with
  |non=>cases Z;exact Bt _
  |bl b=>cases Z;exact SeqAt.EqAt.none_bool b
  |int b=>obtain⟨t,rfl⟩:=Z;exact SeqAt.EqAt.none_int b t
  |str b=>obtain⟨t,rfl⟩:=Z;exact SeqAt.EqAt.none_str b t
  |_=>exact absurd (show false=true from Y) aW
 |bl a=>
  cases W
  cases x with
  |non=>cases Z;exact SeqAt.EqAt.bool_none a
  |bl b=>cases Z;exact SeqAt.EqAt.bool_bool a b
  |int b=>obtain⟨t,rfl⟩:=Z;exact SeqAt.EqAt.bool_int a b t
  |str b=>obtain⟨t,rfl⟩:=Z;exact SeqAt.EqAt.bool_str a b t
  |_=>exact absurd (show false=true from Y) aW
 |int a=>
  obtain⟨t',rfl⟩:=W
  cases x with
  |non=>cases Z;exact SeqAt.EqAt.int_none a t'
  |bl b=>cases Z;exact SeqAt.EqAt.int_bool a t' b
  |int b=>obtain⟨t,rfl⟩:=Z;exact qY a t' b t
  |str b=>obtain⟨t,rfl⟩:=Z;exact zP a t' b t
  |_=>exact absurd (show false=true from Y) aW
 |str a=>
  obtain⟨t',rfl⟩:=W
  cases x with
  |non=>cases Z;exact SeqAt.EqAt.str_none a t'
  |bl b=>cases Z;exact SeqAt.EqAt.str_bool a t' b
  |int b=>obtain⟨t,rfl⟩:=Z;exact zQ a t' b t
  |str b=>obtain⟨t,rfl⟩:=Z;exact SeqAt.EqAt.str_str a t' b t
  |_=>exact absurd (show false=true from Y) aW
 |_=>exact absurd (show false=true from U) aW
def eqU(x:V)(u:af):Bool:=match u with
 |.none=>eqV .non x
 |.bool b=>eqV (.bl b) x
 |.int i _=>eqV (.int i) x
 |.str z _=>eqV (.str z) x
 |_=>false
theorem FN{x y:V}{u:af}(r:RelV y u)(f:sO y=true):eqU x u=eqV y x:=by
 cases y with
 |non=>cases r;rfl
 |bl b=>cases r;rfl
 |int i=>obtain⟨t,rfl⟩:=r;rfl
 |str z=>obtain⟨t,rfl⟩:=r;rfl
 |_=>exact absurd (show false=true from f) aW
theorem yU{x:V}:∀{xs:List V} {us:List af},cX xs us->xs.all sO=true->us.any (eqU x)=xs.any fun y=>eqV y x
 |_,_,.nil,_=>rfl
 |y::xs,u::us,.cons r t,f=>by
  rw[Ni,kF]at f;rw[kN,kN,FN r f.1,yU t f.2]
theorem wy{A:bZ}{s:ak}{x:V}{v:af}(Z:RelV x v)(Y:sO x=true):∀{xs:List V} {us:List af},cX xs us->xs.all sO=true->∀u∈us,xA A s u v (eqU x u)
 |_,_,.nil,_=>fun u hu=>by cases hu
 |y::xs,u::us,.cons r t,f=>fun W hu=>by
  rw[Ni,kF]at f
  rcases ar.mp hu with rfl|hu
  ·rw[FN r f.1];exact Nh r Z f.1 Y
  ·exact wy Z Y t f.2 W hu
def inV(x:V)(xs:List V):Bool:=xs.any fun y=>eqV y x
def rIn(K:ae)(Z:Bool):R2:=fun x y H Q=>∃p xs,y=.ref p/\(SqL K H p xs\/SqT K H p xs)/\sO x=true/\xs.all sO=true/\Q (.bl (if Z then !inV x xs else inV x xs)) H
theorem sP:OpR X (cU .NotIn) (rIn X.K true):=by
 intro pins s σ H x y v u Q I Y V h;obtain⟨p,xs,rfl,hq,W,fs,q⟩:=h
 cases V
 rcases hq with hq|hq
 ·obtain⟨Z,r,pl,U⟩:=I.list hq;refine SeqAt.notIn_listAt (eqU x) pl.isList (fun w hw=>wy Y W r fs w (by simpa using hw)) {.bl _,H,I,rfl,?_};rw[show Z.toArray.any (eqU x)=Z.any (eqU x) by simp,yU r fs];exact q
 ·obtain⟨Z,r,pl,U⟩:=I.tuple hq;refine SeqAt.notIn_tupleAt (eqU x) pl (fun w hw=>wy Y W r fs w (by simpa using hw)) {.bl _,H,I,rfl,?_};rw[show Z.toArray.any (eqU x)=Z.any (eqU x) by simp,yU r fs];exact q
theorem ip:lF X (.builtin "len") (fun xs H Q=>∃p ys,xs=[.ref p]/\(SqL X.K H p ys\/SqT X.K H p ys)/\Q (.int ys.length) H):=by
 intro pins s σ H xs us Q I r h;obtain⟨p,ys,rfl,hq,q⟩:=h;obtain⟨u,rfl,V⟩:=vals1 r
 cases V;have O:=tV
 rcases hq with hq|hq
 ·obtain⟨W,Y,pl,U⟩:=I.list hq;have Z:=Y.length;exact Calls.call_len_list pl.isList (by simp only[aH]<;>omega) {.int ys.length,H,I.tok _,{s.toks+1,by rw[aH,Z]},q}
 ·obtain⟨W,Y,pl,U⟩:=I.tuple hq;have Z:=Y.length;exact len_tuple pl (by simp only[aH]<;>omega) {.int ys.length,H,I.tok _,{s.toks+1,by rw[aH,Z]},q}
theorem oR:lF X (.type "list") (fun xs H Q=>∃p ys,xs=[.ref p]/\(SqL X.K H p ys\/SqT X.K H p ys)/\∀l,H l=none->Q (.ref l) (upd H l (.lst ys))):=by
 intro pins s σ H xs us Q I r h;obtain⟨p,ys,rfl,hq,q⟩:=h;obtain⟨u,rfl,O⟩:=vals1 r
 cases O;have fin:∀(Z:List af),cX ys Z->ys.length<=aB->∀(h':cz) (Y:Nat),(∀b o',s.heap.get? b=some o'->h'.get? b=some o') ->
   h'.get? s.heap.objs.size=some {cls:=.type "list",dict:=none,data:=.seq Z.toArray Y,slots:=#[]}->EP X pins σ Q (.ref s.heap.objs.size) {s with heap:=h'}:=fun Z W U h' Y kp e=>
  {.ref s.heap.objs.size,_,I.laid (t':=s.toks) kp (aD _) (show eE X.prog X.w _ h' _ (.lst ys) from⟨U,Z,Y,W,e⟩),rfl,q _ (I.hok.fresh (aD _))}
 rcases hq with hq|hq
 ·obtain⟨Z,W,pl,U⟩:=I.list hq;have V:=W.length;obtain⟨o,ho,hc,n,hd⟩:=pl.isList;exact call_list_seq p (.inl rfl) ho hc hd (fun h' Y kp e=>fin Z W U h' Y kp e) (by simp only[aH]<;>omega)
 ·obtain⟨Z,W,pl,U⟩:=I.tuple hq;have V:=W.length;obtain⟨o,ho,hc,n,hd⟩:=pl;exact call_list_seq p (.inr rfl) ho hc hd (fun h' Y kp e=>fin Z W U h' Y kp e) (by simp only[aH]<;>omega)
theorem xH:lF X (.type "tuple") (fun xs H Q=>∃p ys,xs=[.ref p]/\((SqL X.K H p ys/\∀l,H l=none->Q (.ref l) (upd H l (.tup ys)))\/(SqT X.K H p ys/\Q (.ref p) H))):=by
 intro pins s σ H xs us Q I r h;obtain⟨p,ys,rfl,h⟩:=h;obtain⟨u,rfl,O⟩:=vals1 r
 cases O
 rcases h with⟨hq,q⟩|⟨hq,q⟩
 ·obtain⟨Z,Y,pl,U⟩:=I.list hq;have V:=Y.length;refine call_tuple_list pl.isList (fun h' kp=>?_) (by simp only[aH]<;>omega);have W:Inv X pins σ H {s with heap:=h'}:=I.kept (t':=s.toks) kp;have M:Inv X pins σ (upd H h'.objs.size (.tup ys)) {s with heap:=h'.push {cls:=.type "tuple",data:=.seq Z.toArray}}:=
   W.laid (t':=s.toks) (fun b o e=>aJ _ e) (aD _) (show eE X.prog X.w _ _ _ (.tup ys) from{U,Z,Y,IsTup.new _ _})
  exact{.ref h'.objs.size,_,M,rfl,q _ (W.hok.fresh (aD _))}
 ·obtain⟨Z,Y,pl,U⟩:=I.tuple hq;exact call_tuple_same pl {.ref p,H,I,rfl,q}
def tyV(K:ae)(T:String)(x:V)(H:Hp):Prop:=match x with
 |.str _=>T="str"
 |.int _=>T="int"
 |.ref p=>(T="list"/\∃xs,SqL K H p xs)\/(T="tuple"/\∃o,K.lookup p=some o/\o.cls=.type "tuple"/\o.dict=none) \/
   (T="dict"/\((∃kvs,H p=some (.dK kvs))\/∃kvs,H p=some (.dT kvs)))\/(T="set"/\∃S n,H p=some (.set S n))
 |_=>False
theorem FO{pins:List (aa×Obj)}{σ:St}{H:Hp}{s:ak}{T:String}{x:V}{v:af}(I:Inv X pins σ H s)(r:RelV x v)(ty:tyV X.K T x H) :
  s.TypeIs v T/\∀a,v=.ref a->∃ob,s.heap.get? a=some ob/\ob.dict=none:=by
 cases x with
 |str z=>
  obtain⟨t,rfl⟩:=r
  cases (show T="str" from ty);exact{typeIs_str s z t,fun _ e=>nomatch e}
 |int i=>
  obtain⟨t,rfl⟩:=r
  cases (show T="int" from ty);exact{typeIs_int s i t,fun _ e=>nomatch e}
 |ref p=>
  cases r
  rcases ty with⟨rfl,xs,hq⟩|⟨rfl,o,hk,hc,hd⟩|⟨rfl,hk⟩|⟨rfl,S,n,hk⟩
  ·obtain⟨Y,_,pl,_⟩:=I.list hq;refine{pl.isList.typeIs,fun a e=>?_}
   cases e;obtain⟨o,n,e,c,hd,_⟩:=pl;exact⟨o,e,hd⟩
  ·refine{{o,I.kIn p o hk,hc},fun a e=>?_}
   cases e;exact{o,I.kIn _ o hk,hd}
  ·have z:∃o,s.heap.get? p=some o/\o.ExactDict:=by
    rcases hk with⟨kvs,hk⟩|⟨kvs,hk⟩
    ·obtain⟨_,_,_,_,o,_,_,e,ex,_⟩:=I.hok p _ hk;exact⟨o,e,ex⟩
    ·obtain⟨_,_,_,_,o,_,_,e,ex,_⟩:=I.hok p _ hk;exact⟨o,e,ex⟩
   obtain⟨o,e,ex⟩:=z;refine{⟨o,e,ex.1⟩,fun a Z=>?_}
   cases Z;exact⟨o,e,ex.2.1⟩
  ·obtain⟨o,_,_,_,e,ex,_⟩:=I.hok p _ hk;refine{⟨o,e,ex.1⟩,fun a Z=>?_}
   cases Z;exact⟨o,e,ex.2.1⟩
 |_=>exact cI ty
def tBM0(K:ae)(T:String)(r:V->List V->Hp->VK->Prop)(to:TE):TE:=fun σ H Q=>to σ H fun x H1=>tyV K T x H1/\r x [] H1 Q
def tBM(K:ae)(T:String)(r:V->List V->Hp->VK->Prop)(to:TE)(t:TA):TE:=fun σ H Q=>to σ H fun x H1=>tyV K T x H1/\t σ H1 fun xs H2=>r x xs H2 Q
variable{o e:cN}{es:List cN}{to:TE}{t:TA}{name:Str}{apos cpos:Pos}{T id:String}{r:V->List V->Hp->VK->Prop}
theorem Bu(O:PlainAttrs T)(slot:Slot T name id)(W:typeOf (.builtin id)=pure (.type "method_descriptor"))(hm:MtR X id r)(ho:PE X o to)
  (Y:me o name X.env (fg o X.env)=fg o X.env:=by rfl) (Z:(apos.endLine==cpos.line)=true:=by rfl):PE X (.Call (.Attribute o name apos) [] [] cpos) (tBM0 X.K T r to):=by
 intro pins s σ H Q I h;refine Fh Y Z (thn (ho pins s σ H _ I h) fun v U ⟨x,H1,V,r1,ty,M⟩=>?_);obtain⟨h1,h2⟩:=FO V r1 ty;exact{T,id,O,slot,W,h1,h2,pT rfl (Co (hm pins U σ H1 x [] v [] Q V r1 .nil M))}
theorem nX(g:PlainAttrs T)(slot:Slot T name id)(U:typeOf (.builtin id)=pure (.type "method_descriptor"))(hm:MtR X id r)(ho:PE X o to)(ha:PA X (e::es) t)
  (W:me o name X.env (fg o X.env)=fg o X.env:=by rfl)
  (V:((iN cpos (cu (e::es) X.env)).all (fun x=>!x.1)&&(mj cpos (iM [] X.env)).all (fun x=>x.1.isSome)
  &&decide ((e::es).length+([]:List OX).length+(if ([]:List OX).isEmpty then 0 else 1)<30))=true:=by rfl)
  (Y:(apos.endLine==cpos.line)=true:=by rfl) (hs:cu (e::es) X.env=(false,fg e X.env)::cu es X.env:=by rfl) (Z:(iN cpos (cu es X.env)).any (·.1)=false:=by rfl) :
  PE X (.Call (.Attribute o name apos) (e::es) [] cpos) (tBM X.K T r to t):=by
 intro pins s σ H Q I h;refine wpAny_Call_method_late W V Y rfl (thn (ho pins s σ H _ I h) fun v z ⟨x,H1,O,r1,ty,q1⟩=>?_);obtain⟨h1,h2⟩:=FO O r1 ty;refine{T,id,g,slot,U,h1,h2,?_};have M:=ha cpos pins z σ H1 _ O q1;rw[hs]at M |-;refine pT (by show (false||(iN cpos (cu es X.env)).any (·.1))=false;rw[Z]<;>rfl) (Bv ?_);exact thn M fun us s2 ⟨vs,H2,D,r2,J⟩=>hm pins s2 σ H2 x vs v us Q D r1 r2 J
end
def MtM(X:Cx)(id:String)(r:V->List V->Hp->VK->Prop):Prop:=
 ∀(pins:List (aa×Obj)) (s:ak) (σ:St) (H:Hp) (x:V) (xs:List V) (v:af) (us:List af) (Q:VK),Inv X pins σ H s->RelV x v->cX xs us->r x xs H Q ->
  aX (bf X.prog X.w) X.A (xu (.builtin id) (v::us)) (EP X pins σ Q) X.xe s
theorem cX.one:∀{x:V} {us:List af},cX [x] us->∃u,us=[u]/\RelV x u
 |_,_,.cons r .nil=>{_,rfl,r}
theorem cX.two:∀{x y:V} {us:List af},cX [x,y] us->∃u v,us=[u,v]/\RelV x u/\RelV y v
 |_,_,_,.cons r (.cons q .nil)=>{_,_,rfl,r,q}
theorem cX.zero:∀{us:List af},cX [] us->us=[]
 |_,.nil=>rfl
theorem cX.dropLast{xs:List V}{us:List af}(h:cX xs us):cX xs.dropLast us.dropLast:=by
 induction h with
 |nil=>exact .nil
 |cons r t Z=>
  cases t with
  |nil=>exact .nil
  |cons q t'=>exact .cons r Z
theorem cX.eraseIdx:∀{xs:List V} {us:List af} (i:Nat),cX xs us->cX (xs.eraseIdx i) (us.eraseIdx i)
 |_,_,_,.nil=>.nil
 |_,_,0,.cons _ t=>t
 |_,_,i+1,.cons r t=>.cons r (cX.eraseIdx i t)
theorem cX.reverse{xs:List V}{us:List af}(h:cX xs us):cX xs.reverse us.reverse:=by
 induction h with
 |nil=>exact .nil
 |cons r t Z=>rw[FP,FP];exact cX.append Z (.cons r .nil)
theorem Bw{Z:Type}(l:List Z):l.eraseIdx (l.length-1)=l.dropLast:=by
 induction l with
 |nil=>rfl
 |cons a r Y=>
  cases r with
  |nil=>rfl
  |cons b r=>
   have e:(a::b::r).length-1=((b::r).length-1)+1:=by
    have h1:(a::b::r).length=r.length+2:=rfl;have h2:(b::r).length=r.length+1:=rfl;omega
   rw[e,List.eraseIdx_cons_succ,Y]
   all_goals rfl
theorem yb{Z:Type}:∀(l:List Z) (i:Nat),(l.eraseIdx i).length<=l.length
 | [],_=>aD _
 |_::_,0=>gp _
 |_::r,i+1=>Nat.succ_le_succ (yb r i)
section
variable{X:Cx}{pins:List (aa×Obj)}{σ:St}{H:Hp}{s:ak}{l b:aa}{xs ys zs:List V}
theorem Inv.lset{Z its':List af}{n:Nat}{f:Array af->Array af}{t':Nat}(I:Inv X pins σ H s)(W:H l=some (.lst xs))
  (e:s.heap.get? l=some {cls:=.type "list",data:=.seq Z.toArray n}) (Y:f Z.toArray=its'.toArray) (hv:cX ys its') (V:ys.length<=aB) :
  Inv X pins σ (upd H l (.lst ys)) {s with heap:=s.heap.update l (dh f),toks:=t'}:=by
 have q:=PySem.IsL.update e f;rw[Y]at q;refine I.write (x:=l) (e:=l) (by rw[W];exact trivial) (.inl rfl) (fun U u hb hu=>(fV s.heap (dh f) (gj hb)).trans hu) {_,q} ?_;exact{V,its',_,hv,q}
theorem Inv.lnew{Z:List af}{t':Nat}(I:Inv X pins σ H s)(hv:cX ys Z)(Y:ys.length<=aB) :
  Inv X pins σ (upd H s.heap.objs.size (.lst ys)) {s with heap:=s.heap.push {cls:=.type "list",data:=.seq Z.toArray},toks:=t'}:=
 I.laid (fun _ _ q=>aJ _ q) (aD _) {Y,Z,0,hv,cy _ rfl}
theorem Inv.fresh(I:Inv X pins σ H s):H s.heap.objs.size=none:=I.hok.fresh (aD _)
theorem Inv.lstM(I:Inv X pins σ H s)(Y:H l=some (.lst xs)):xs.length<=aB/\∃(Z:List af) (n:Nat),cX xs Z/\xs.length=Z.length/\s.heap.get? l=some {cls:=.type "list",data:=.seq Z.toArray n}:=by
 obtain⟨z,Z,n,r,e⟩:=I.hok l _ Y;exact⟨z,Z,n,r,r.length,e⟩
theorem FQ{n:Nat}(h:n<=aB):lu n=false:=by
 unfold lu;exact decide_eq_false (by omega)
end
section
variable{X:Cx}
inductive AppI(x:V)(vs:List V)(H:Hp)(Q:VK):Prop where
 |mk(l:aa)(xs:List V)(y:V)(hx:x=.ref l)(hv:vs=[y])(h:H l=some (.lst xs))(n:xs.length<aB)(q:Q .non (upd H l (.lst (xs++[y])))):AppI x vs H Q
def Ju:V->List V->Hp->VK->Prop:=fun x vs H Q=>AppI x vs H Q
theorem iC:MtM X "list.append" Ju:=by
 intro pins s σ H x vs v us Q I W V h;obtain⟨l,xs,y,rfl,rfl,Y,U,q⟩:=h
 cases W;obtain⟨u,rfl,ru⟩:=V.one;obtain⟨z,Z,n,r,hl,e⟩:=I.lstM Y;refine oS F.slot_list_append {_,e,rfl} F.entry_list_append (F.args_list_append_2 _ _) (PySem.list_append l Z.toArray n u (by rw[aH];omega)) {e,?_};refine{.non,_,I.lset (its':=Z++[u]) Y e (by simp) (r.append (.cons ru .nil)) ?_,rfl,q};rw[aA,Bx];omega
def Jv:V->List V->Hp->VK->Prop:=fun x vs H Q=>∃l b xs zs,x=.ref l/\vs=[.ref b]/\H l=some (.lst xs)/\H b=some (.lst zs)/\xs.length+zs.length<=aB/\Q .non (upd H l (.lst (xs++zs)))
theorem Er:MtM X "list.extend" Jv:=by
 intro pins s σ H x vs v us Q I U D h;obtain⟨l,b,xs,zs,rfl,rfl,V,O,g,q⟩:=h
 cases U;obtain⟨u,rfl,ru⟩:=D.one
 cases ru;obtain⟨z,Y,n,r,hl,e⟩:=I.lstM V;obtain⟨t,Z,n2,r2,J,M⟩:=I.lstM O;have hsz:Y.toArray.size+Z.toArray.size<=aB:=by rw[aH,aH];omega
 have W:¬(!Y.toArray.isEmpty&&lu (Y.toArray.size+Z.toArray.size))=true:=by
  rw[FQ hsz,Bool.and_false];exact aW
 refine oS F.slot_list_extend {_,e,rfl} F.entry_list_extend (F.args_list_extend_2 _ _)
  (AutoSeq1.list_extend_list_list_0 l Y.toArray n b Z.toArray n2 W (by rw[aH];omega) (by omega)) {e,M,?_}
 refine{.non,_,I.lset (its':=Y++Z) V e (by simp) (r.append r2) ?_,rfl,q};rw[aA];omega
def rPop:V->List V->Hp->VK->Prop:=fun x vs H Q=>∃l xs y,x=.ref l/\vs=[]/\H l=some (.lst xs)/\xs[xs.length-1]?=some y/\Q y (upd H l (.lst xs.dropLast))
theorem Nj:MtM X "list.pop" rPop:=by
 intro pins s σ H x vs v us Q I U O h;obtain⟨l,xs,y,rfl,rfl,V,hy,q⟩:=h
 cases U;have W:=O.zero;subst W;obtain⟨z,Z,n,r,hl,e⟩:=I.lstM V;obtain⟨u,hu,ru⟩:=r.get hy;have Y:Z.toArray[Z.toArray.size-1]?=some u:=by
  show Z.toArray[Z.length-1]?=some u;rw[<- jX,<- hl];exact hu
 refine oS F.slot_list_pop {_,e,rfl} F.entry_list_pop (F.args_list_pop_1 _) (MeetsSeq.list_pop_last l Z.toArray n u Y (by rw[aH];omega)) {e,?_};refine{y,_,I.lset (its':=Z.dropLast) V e ?_ r.dropLast ?_,ru,q}
 ·show Z.toArray.eraseIdxIfInBounds (Z.toArray.size-1)=Z.dropLast.toArray;rw[aH,uZ,Bw]
 ·rw[kQ];omega
def Nl:V->List V->Hp->VK->Prop:=fun x vs H Q=>∃l xs i k y,x=.ref l/\vs=[.int i]/\H l=some (.lst xs)/\-(2^63)<=i/\i<2^63/\seqIndex? i xs.length=some k/\xs[k]?=some y/\Q y (upd H l (.lst (xs.eraseIdx k)))
theorem FR:MtM X "list.pop" Nl:=by
 intro pins s σ H x vs v us Q I V U h;obtain⟨l,xs,i,k,y,rfl,rfl,W,h1,h2,hk,hy,q⟩:=h
 cases V;obtain⟨u,rfl,ru⟩:=U.one;obtain⟨t,rfl⟩:=ru;obtain⟨z,Z,n,r,hl,e⟩:=I.lstM W;obtain⟨w,hw,Y⟩:=r.get hy;refine oS F.slot_list_pop {_,e,rfl} F.entry_list_pop (F.args_list_pop_2 _ _)
  (MeetsSeq.list_pop_at l Z.toArray n i t k w (fitsIndex_both h1 h2) (by rw[aH,<- hl];exact hk) (by rw[<- jX];exact hw) (by rw[aH];omega)) {e,?_}
 refine{y,_,I.lset (its':=Z.eraseIdx k) W e ?_ (r.eraseIdx k) ?_,Y,q}
 ·show Z.toArray.eraseIdxIfInBounds k=(Z.eraseIdx k).toArray;rw[uZ]
 ·have:=yb xs k;omega
def rCat:R2:=fun x y H Q=>∃l b xs zs,x=.ref l/\y=.ref b/\H l=some (.lst xs)/\H b=some (.lst zs)/\xs.length+zs.length<=aB/\∀p,H p=none->Q (.ref p) (upd H p (.lst (xs++zs)))
theorem FS:OpR X (iE .Add) rCat:=by
 intro pins s σ H x y v u Q I W O h;obtain⟨l,b,xs,zs,rfl,rfl,M,V,g,q⟩:=h
 cases W
 cases O;obtain⟨z,Y,n,r,hl,e⟩:=I.lstM M;obtain⟨t,Z,n2,r2,J,U⟩:=I.lstM V;refine PySem.P.add_list e U ?_ (by rw[aH,aH];omega);have D:Y.toArray++Z.toArray=(Y++Z).toArray:=by simp
 rw[D];exact{.ref _,_,I.lnew (t':=s.toks) (r.append r2) (by rw[aA];omega),rfl,q _ I.fresh}
end
section
variable{prog:aN}{w:bL}{A:bZ}{E:af->ak->Prop}{s:ak}
end
section
variable{X:Cx}
end
end L2
namespace Att
open PySem PySem.W PySem.Calls PyProof.Rows
theorem ints_of_wellAll{P:Params}{h:cz}:∀(ns:List Int) (vs:List af),WellAll P h vs (ns.map WData.int)->dN vs ns:=by
 intro ns
 induction ns with
 |nil=>
  intro vs w;rw[uJ]at w
  cases w;exact .nil
 |cons n ns Z=>
  intro vs w;rw[b9]at w
  cases w with
  |cons a b=>
   cases a;exact .cons _ _ (Z _ b)
theorem script_of{l:OpenLaw}{n:Nat}(I:l.most=some n){P:Params}{h:cz}{args:List WData}{Y:List af}
  (Z:l.row.toRowW.claim.pre args=true) (J:WellAll P h Y args) :
  ∃a vs ns,Y=[Value.ref a]/\args=[WData.list (ns.map WData.int)]/\h.get? a=some {cls:=.type "list",data:=.seq vs.toArray}/\dN vs ns/\ns.length<=n:=by
 have M:WShape.hasAll [] args [.list .int]=true:=(pre_splitW Z).1;have hc:l.pre.holds [] {args:=args}=true:=(pre_splitW Z).2;obtain⟨d,r,rfl,h1,h2⟩:=hasAllW_cons M;obtain rfl:=hasAllW_nil h2;obtain⟨xs,rfl,t⟩:=hasW_list h1;obtain⟨ns,rfl⟩:=items_int t;have V:ns.length<=n:=by
  unfold OpenLaw.pre at hc;have U:(WTm.not (.lt (.lit (.int (n:Int))) (.len (.arg 0)))).holds [] {args:=[.list (ns.map .int)]}=true:=by
   have U:=(holds_andW hc).1;rw[I]at U;exact U
  have O:=condW_of U (w_not (w_lt w_lit (w_len_list (w_arg rfl))));rw[ao]at O;refine Nat.le_of_not_lt fun q=>?_;have D:(n:Int)<((ns.length:Nat):Int):=by omega
  first
   |(rw[decide_eq_true D]at O;exact absurd O (by decide))
   |(simp at O;omega)
 cases J with
 |cons H z=>
  cases z
  cases H with
  |list ho W=>exact{_,_,ns,rfl,rfl,ho,ints_of_wellAll ns _ W,V}
theorem post_true(l:OpenLaw)(args:List WData):l.row.toRowW.claim.post args (.bool true) args=true:=
 postW_of (r:=l.row.toRowW) (X:=(true==true))
  (show O0 [] (.bool true) .bool=true by first|rfl|decide|simp[O0,WShape.arms,WShape.armsAll])
  (show (WTm.eq .res (.lit (.bool true))).value [] {args:=args,res:=some (.bool true),after:=args}=some (.bool (true==true)) from w_eq_bool (w_res rfl) w_lit) rfl
section
variable{prog:aN}{w:bL}{A:bZ}{E:af->ak->Prop}{s:ak}{K:Frag}
end
end Att
namespace L2
open PySem PySem.Spec PyProof.Rows
theorem yc:∀{vs:List af} {ns:List Int},dN vs ns->cX (ns.map V.int) vs
 |_,_,.nil=>.nil
 |_,_,.cons n t h=>.cons ⟨t,rfl⟩ (yc h)
def Only(H:Hp):Prop:=∀b,H b=none\/∃o xs,H b=some (.frz o (.lst xs))
theorem FT{P:aN}{w:bL}{K:ae}{mg mb:Str->Option af}{CX:CXT}{k:Nat}{fa a:aa}{fd:bR}{x:Str}{sp:Sp}{Z:ak}{vs:List af}{ns:List Int}
  (KX:K.In Z.heap) (M:Z.heap.Ns bJ mg) (hb:Z.heap.Ns MU mb) (cs:∀x:Str,x≠"__name__"->mb x=eQ x) (I:Z.heap.NoLimit) (hg:Z.gens=#[])
  (ha:Z.heap.get? a=some {cls:=.type "list",data:=.seq vs.toArray}) (hi:dN vs ns) (hl:ns.length<=aB) (hr:cQ k xI)
  (F:∀base:cz,K.In base->base.Ns bJ mg->bA P w K mg base CX k fa fd [x] sp) (O:∀(s:ak) (u:af),uH s fd {[u],[]} [(x,u)])
  (cr:∀H:Hp,Only H->SqL K H a (ns.map V.int)->sp [.ref a] H (fun v _=>v=.bl true) fun _ _ _=>False)
  (cx:∀H e s',CX [] H Z (fun _ _ _=>False) e s'->False) :
  p4 (bf P w) xI (.call (.ref fa) {[.ref a],[]}) (fun r s'=>r=.ok (.ret (.bool true))/\OldK Z.heap s'.heap/\s'.os=Z.os/\pY s'.gens) Z:=by
 have rv:=yc hi;have J:=hi.length
 -- from an abstract heap in which nothing but the script may be tracked
 have U:∀H:Hp,Only H->SqL K H a (ns.map V.int)->HOk P w H Z.heap->(∀b,H b≠none->b=a)->(H a≠none->K.lookup a=none) ->
   p4 (bf P w) xI (.call (.ref fa) {[.ref a],[]}) (fun r s'=>r=.ok (.ret (.bool true))/\OldK Z.heap s'.heap/\s'.os=Z.os/\pY s'.gens) Z:=by
  intro H hO hS hok hA hK;have Y:∀{b:aa} {o:Obj},Z.heap.get? b=some o->H b=none->(yJ Z.heap H).get? b=some o:=fun e n=>Fo e n;have da:∀{b:aa} {o:Obj} {es:Array DictEntry} {ep:Nat},Z.heap.get? b=some o->o.data=.dict es ep->H b=none:=fun {b o es ep} e d=>by
   cases q:H b with
   |none=>rfl
   |some u=>
    have e':b=a:=hA b (by rw[q];simp);subst e';rw[ha]at e;cases e;have d':Data.seq vs.toArray _=Data.dict es ep:=d
    cases d'
  have W:∀{b:aa} {m:Str->Option af},Z.heap.Ns b m->(yJ Z.heap H).Ns b m:=fun {b m} ⟨o,es,ep,e,d,r⟩=>{o,es,ep,Y e (da e d),d,r};have D:K.In (yJ Z.heap H):=fun b o e=>Y (KX b o e) (by
   cases q:H b with
   |none=>rfl
   |some u=>
    have e':b=a:=hA b (by rw[q];simp);subst e';rw[hK (by rw[q];simp)]at e;cases e)
  have hM:Mod K mg (yJ Z.heap H):={D,W M,{mb,W hb,cs},let ⟨mc,h1,h2⟩:=I;{mc,W h1,h2}};have e0:yP P w K mg (yJ Z.heap H) xI [] Z H:={rfl,hM,fun b o e=>Ja e,Bi (Eb _ _),trivial,fun b hb=>absurd (show b∈([]:List aa) from hb) (by simp),hok,.of_eq hg};refine kK ((F _ D (W M)).run xI [] Z H {[.ref a],[]} [.ref a] [.ref a] _ _ hr e0 (O Z (.ref a)) (.cons rfl .nil) (cr H hO hS)) fun r s' h=>?_
  cases r with
  |error e=>exact (cx H e s' h).elim
  |ok fl=>
   cases fl with
   |next=>exact cI h
   |brk=>exact cI h
   |cont=>exact cI h
   |ret u=>
    obtain⟨v,H',os,bare,un,g,r',q⟩:=h;have q':v=.bl true:=q;subst q';obtain rfl:u=Value.bool true:=r';refine{rfl,OldK.of_keep fun b o e=>?_,os,bare}
    cases q:H b with
    |none=>exact un.keep b o e q (by intro z;exact absurd (show b∈([]:List aa) from z) (by simp)) (by simp)
    |some u=>
     rcases hO b with z|⟨ob,xs,z⟩
     ·rw[q]at z;cases z
     ·have z2:=un.frzs b ob _ z;obtain⟨e1,_⟩:=hok b _ z;obtain⟨e2,_⟩:=g b _ z2;rw[e]at e1;cases e1;exact e2
 cases hk:K.lookup a with
 |some o=>
  -- the script is one of the module's own objects
  have e:=KX a o hk;rw[ha]at e
  cases e;refine U (fun _=>none) (fun _=>.inl rfl) (.inr {_,vs.toArray,_,hk,rfl,rfl,rfl,by rw[aH,J];exact hl,by simpa using rv}) (fun b u z=>by have t:(none:Option HO)=some u:=z;cases t) (fun b z=>absurd rfl z) fun z=>absurd rfl z
 |none=>
  refine U (fun b=>if b=a then some (.frz {cls:=.type "list",data:=.seq vs.toArray} (.lst (ns.map V.int))) else none) (fun b=>?_) (.inl (.inr {{cls:=.type "list",data:=.seq vs.toArray},if_pos rfl})) (fun b u z=>?_) (fun b z=>?_) fun _=>hk
  ·by_cases hb:b=a
   ·exact .inr {_,_,if_pos hb}
   ·exact .inl (if_neg hb)
  ·by_cases hb:b=a
   ·have t:=(if_pos hb).symm.trans z
    cases t;subst hb;exact{ha,by rw[ao];exact hl,vs,_,rv,ha}
   ·have t:=(if_neg hb).symm.trans z
    cases t
  ·by_cases hb:b=a
   ·exact hb
   ·exact absurd (if_neg hb) z
def eU(s:cT)(j:Nat):cT:=match s with
 |.ClassDef _ _ _ Z _ _ _ _ _ _ _=>Z.getD j (.Pass {0,0,0,0})
 |_=>.Pass {0,0,0,0}
def kU(s:cT):Arguments:=match s with
 |.FunctionDef _ a _ _ _ _ _ _ _ _=>a
 |_=>{posonlyargs:=[],args:=[],vararg:=none,kwonlyargs:=[],kw_defaults:=[],kwarg:=none,defaults:=[]}
def ji(s:cT):List cT:=match s with
 |.FunctionDef _ _ b _ _ _ _ _ _ _=>b
 |_=>[]
def aM(s:cT):mh:=match s with
 |.FunctionDef _ _ _ _ _ _ sc _ _ _=>sc
 |_=>{kind:=.function,names:=[],isGenerator:=false,isCoroutine:=false}
abbrev CX0:CXT:=fun _ _ _ _ _ _=>False
abbrev E0:XK:=fun _ _ _=>False
theorem bC{X:Cx}:lH CX0 X E0:=fun _ _ _ _ _ _ _ h=>h.elim
structure Fun(K:ae)(x qual:Str)(st:cT)(f:aa)(fd:bR):Prop where
 ex:∃(oc:af) (od:Option aa) (kV doc pm:af) (an:Option aa) (cdv ct:af) (osl:Array (Option af)),
  fd=fi x qual (kU st) (ji st) (aM st) .none kV doc pm an cdv ct/\K.lookup f=some {oc,od,.func fd,osl}/\jz K cdv qual=true
 kp:gF K (.ref f)=true
section
variable{P:aN}{w:bL}{K:ae}{mg:Str->Option af}{base:cz}
theorem Fun.ok{x Z:Str}{st:cT}{f:aa}{fd:bR}{N ps:List Str}{k:Nat}{sp:Sp}(F:Fun K x Z st f fd)(S:bM N ps (aM st))(len:∀vs H Q E,sp vs H Q E->vs.length=ps.length)
  (W:∀(Y:af) (A:bZ) (outer:List Env) (s:ak) (H:Hp) (vs:List V) (Q:VK) (E:XK),cQ k (A.deeper (tZ Z (aM st) s.heap.objs.size f Y))->sp vs H Q E ->
   ∃t,PSs (tY CX0 P w K mg base N Z (aM st) f Y A outer s H E).nox (ji st) t/\t {nx:=fun _ H'=>Q .non H',rt:=Q} (start N vs) H):bA P w K mg base CX0 (k+1) f fd ps sp:=by
 obtain⟨z,od,kV,M,pm,D,Y,ct,J,rfl,I,U⟩:=F.ex;refine Ll I U S len fun A outer s H vs Q E hr O=>?_;obtain⟨t,h,q⟩:=W Y A outer s H vs Q E hr O;exact⟨t,h.nox,q⟩
theorem Fun.binds{x Z:Str}{st:cT}{f:aa}{fd:bR}{ps:List Str}(F:Fun K x Z st f fd)
  (h:∀(kV Y pm:af) (V:Option aa) (W ct:af) (us:List af),us.length=ps.length->Bn (fi x Z (kU st) (ji st) (aM st) .none kV Y pm V W ct) {us,[]}=pure (ps.zip us)):Binds K fd ps []:=by
 obtain⟨J,od,kV,Y,pm,V,W,ct,U,rfl,M,O⟩:=F.ex;exact .all (h kV Y pm V W ct)
theorem FU{x Z:Str}{st:cT}{f:aa}{O:af}{od U:Option aa}{V:Array (Option af)}{kV W pm Y ct:af}(l:K.lookup f=some {O,od,.func (fi x Z (kU st) (ji st) (aM st) .none kV W pm U Y ct),V})
  (c:jz K Y Z=true) (k:gF K (.ref f)=true):Fun K x Z st f (fi x Z (kU st) (ji st) (aM st) .none kV W pm U Y ct):={⟨O,od,kV,W,pm,U,Y,ct,V,rfl,l,c⟩,k}
end
theorem lN{A:bZ}{k:Nat}(hr:cQ k A):A.units+1<eK:=jA (Fi (by decide:1<=64) _) hr.units
section
variable{X:Cx}
theorem pv(i:Nat){x:Str}{pos:Pos}(Y:X.N[i]?=some x:=by rfl)(hv:Vis X.env.scope x:=by first|exact Or.inl rfl|exact Or.inr (Or.inl rfl)|exact Or.inr (Or.inr rfl))(hd:(x==("__debug__":Str))=false:=by decide)
  (Z:(x==("__classdict__":Str))=false:=by decide):PE X (.Name x pos) (Jc i):=MV Y hv hd Z
end
theorem gb{A B:Prop}(h:B):if false=true then A else B:=by
 rw[if_neg aW];exact h
theorem iH{A B:Prop}(h:A):if true=true then A else B:=by
 rw[if_pos rfl];exact h
theorem gi{c A B:Prop}[Decidable c](h1:c->A)(h2:¬c->B):if c then A else B:=by
 by_cases h:c
 ·rw[if_pos h];exact h1 h
 ·rw[if_neg h];exact h2 h
def aV(H H':Hp):Prop:=∀b o,H b=some o->H' b=some o
theorem aV.refl(H:Hp):aV H H:=fun _ _ h=>h
theorem aV.trans{H H1 H2:Hp}(a:aV H H1)(b:aV H1 H2):aV H H2:=fun c o h=>b c o (a c o h)
theorem aV.free{H H':Hp}(e:aV H H'){l:aa}(h:H' l=Option.none):H l=Option.none:=by
 cases q:H l with
 |none=>rfl
 |some o=>
  rw[e l o q]at h
  cases h
section
variable{κ:Type}[DecidableEq κ]
def jL(kvs:List (κ×V))(k:κ):Option V:=(kvs.find? fun Z=>decide (Z.1=k)).map (·.2)
def ja(kvs:List (κ×V))(k:κ)(v:V):List (κ×V):=
 if (kvs.any fun Z=>decide (Z.1=k))=true then kvs.map (fun Z=>if Z.1=k then (Z.1,v) else Z) else kvs++[(k,v)]
theorem qi{p:κ×V}{r:List (κ×V)}{k:κ}(e:p.1=k):jL (p::r) k=some p.2:=by simp[jL,jw,e]
theorem qj{p:κ×V}{r:List (κ×V)}{k:κ}(e:¬p.1=k):jL (p::r) k=jL r k:=by simp[jL,jw,e]
theorem kf(k:κ):∀kvs:List (κ×V),(kvs.any fun Z=>decide (Z.1=k))=(jL kvs k).isSome
 | []=>rfl
 |p::r=>by
  rw[kN]
  by_cases e:p.1=k
  ·simp only[qi e,decide_eq_true e,Bool.true_or,Option.isSome_some]
  ·rw[qj e,decide_eq_false e,Bool.false_or];exact kf k r
theorem mO(kvs:List (κ×V))(k:κ)(v:V):(ja kvs k v).length<=kvs.length+1:=by
 unfold ja
 split
 ·rw[ao];omega
 ·rw[aA,aT,cw];omega
theorem Ac{kvs:List (κ×V)}{k:κ}(v:V)(h:jL kvs k=none):ja kvs k v=kvs++[(k,v)]:=by
 unfold ja;rw[kf,h];exact if_neg (by decide)
theorem rB.isSome_eq{o:Option V}{u:Option af}(r:rB o u):o.isSome=u.isSome:=by
 cases o with
 |none=>cases u with
  |none=>rfl
  |some _=>exact (show False from r).elim
 |some _=>cases u with
  |none=>exact (show False from r).elim
  |some _=>rfl
theorem KV.val{kvs:List (κ×V)}{vs:List (κ×af)}(r:KV kvs vs)(k:κ):rB (jL kvs k) (p6 vs k):=by
 unfold KV at r
 induction r with
 |nil=>exact True.intro
 |@cons p q ps qs h t Y=>
  obtain⟨h1,h2⟩:=h
  by_cases e:p.1=k
  ·have Z:q.1=k:=h1.symm.trans e;have b:p6 (q::qs) k=some q.2:=by simp[p6,jw,Z]
   rw[qi e,b];exact h2
  ·have Z:¬q.1=k:=fun z=>e (h1.trans z);have b:p6 (q::qs) k=p6 qs k:=by simp[p6,jw,Z]
   rw[qj e,b];exact Y
theorem KV.any{kvs:List (κ×V)}{vs:List (κ×af)}(r:KV kvs vs)(k:κ):(kvs.any fun Z=>decide (Z.1=k))=vs.any fun Z=>decide (Z.1=k):=by
 unfold KV at r
 induction r with
 |nil=>rfl
 |cons h t Y=>rw[kN,kN,Y,h.1]
theorem KV.repl{kvs:List (κ×V)}{vs:List (κ×af)}(r:KV kvs vs)(k:κ){y:V}{u:af}(Y:RelV y u) :
  KV (kvs.map fun Z=>if Z.1=k then (Z.1,y) else Z) (vs.map fun Z=>if Z.1=k then (Z.1,u) else Z):=by
 unfold KV at r |-
 induction r with
 |nil=>exact .nil
 |@cons p q ps qs h t W=>
  rw[b9,b9];refine .cons ?_ W;obtain⟨h1,h2⟩:=h
  by_cases e:p.1=k
  ·rw[if_pos e,if_pos (h1.symm.trans e)];exact⟨h1,Y⟩
  ·rw[if_neg e,if_neg (fun z=>e (h1.trans z))];exact⟨h1,h2⟩
theorem KV.put{kvs:List (κ×V)}{vs:List (κ×af)}(r:KV kvs vs)(k:κ){y:V}{u:af}(Z:RelV y u):KV (ja kvs k y) (wz vs k u):=by
 unfold ja wz;rw[r.any k]
 by_cases e:(vs.any fun Y=>decide (Y.1=k))=true
 ·rw[if_pos e,if_pos e];exact r.repl k Z
 ·rw[if_neg e,if_neg e];exact eP r ⟨rfl,Z⟩
theorem KV.length{kvs:List (κ×V)}{vs:List (κ×af)}(r:KV kvs vs):kvs.length=vs.length:=aZ r
end
theorem wA{P:aN}{w:bL}{k:Key}{u:af}(r:RelV (kV k) u):(eY P w).is k u=true:=by
 cases k with
 |inl i=>obtain⟨t,e⟩:=(show ∃t,u=Value.int i t from r);subst e;exact z5 P w i t
 |inr x=>obtain⟨t,e⟩:=(show ∃t,u=Value.str x t from r);subst e;exact z7 P w x t
theorem yd{P:aN}{w:bL}:∀{ks:List Key} {us:List af},cX (ks.map kV) us->ItemsAre (eY P w) ks us
 | [],_,r=>by rw[uJ]at r;cases r;exact .nil
 |k::ks,_,r=>by
  rw[b9]at r
  cases r with
  |cons h t=>exact .cons (wA h) (yd t)
abbrev KT(H:Hp):List (List Key×V)->List (List Key×aa×af)->Prop:=aP fun p q=>p.1=q.1/\H q.2.1=some (.tup (p.1.map kV))/\RelV p.2 q.2.2
theorem KT.val{H:Hp}{kvs:List (List Key×V)}{xs:List (List Key×aa×af)}(r:KT H kvs xs)(k:List Key):rB (jL kvs k) ((By xs k).map (·.2)):=by
 induction r with
 |nil=>exact True.intro
 |@cons p q ps qs h t Y=>
  obtain⟨h1,_,h2⟩:=h
  by_cases e:p.1=k
  ·have Z:q.1=k:=h1.symm.trans e;have b:By (q::qs) k=some q.2:=by simp[By,jw,Z]
   rw[qi e,b];exact h2
  ·have Z:¬q.1=k:=fun z=>e (h1.trans z);have b:By (q::qs) k=By qs k:=by simp[By,jw,Z]
   rw[qj e,b];exact Y
theorem KT.repl{H:Hp}{kvs:List (List Key×V)}{xs:List (List Key×aa×af)}(r:KT H kvs xs)(k:List Key){y:V}{u:af}(Y:RelV y u) :
  KT H (kvs.map fun Z=>if Z.1=k then (Z.1,y) else Z) (xs.map (putAt k u)):=by
 induction r with
 |nil=>exact .nil
 |@cons p q ps qs h t W=>
  rw[b9,b9];refine .cons ?_ W;obtain⟨h1,h2,U⟩:=h;unfold putAt
  by_cases e:p.1=k
  ·rw[if_pos e,if_pos (h1.symm.trans e)];exact⟨h1,h2,Y⟩
  ·rw[if_neg e,if_neg (fun z=>e (h1.trans z))];exact⟨h1,h2,U⟩
theorem KT.put{H:Hp}{kvs:List (List Key×V)}{xs:List (List Key×aa×af)}(r:KT H kvs xs)(k:List Key){b:aa}{y:V}{u:af}(hb:H b=some (.tup (k.map kV)))(Z:RelV y u) :
  KT H (ja kvs k y) (storedH xs k b u):=by
 have e:(kvs.any fun Y=>decide (Y.1=k))=(By xs k).isSome:=by
  rw[kf,(r.val k).isSome_eq,m9]
 unfold ja storedH;rw[e]
 by_cases q:(By xs k).isSome=true
 ·rw[if_pos q,if_pos q];exact r.repl k Z
 ·rw[if_neg q,if_neg q];exact eP r ⟨rfl,hb,Z⟩
theorem KT.keeps{H H':Hp}{kvs:List (List Key×V)}{xs:List (List Key×aa×af)}(r:KT H kvs xs)(ht:∀b ys,H b=some (.tup ys)->H' b=some (.tup ys)):KT H' kvs xs:=
 Paired.mapP r fun _ _ z=>{z.1,ht _ _ z.2.1,z.2.2}
section
variable{P:aN}{w:bL}{H:Hp}{h:cz}{a:aa}
theorem Lm{u:HO}(ok:HOk P w H h)(e:Rd H a u):eE P w H h a u:=e.ok ok
theorem Ad{kvs:List (Key×V)}(ok:HOk P w H h)(e:Rd H a (.dK kvs)):kvs.length<=aB/\(a==ff)=false/\∃vs,KV kvs vs/\h.DictOf (eY P w) a vs:=
 show eE P w H h a (.dK kvs) from Lm ok e
theorem Ln{kvs:List (Key×V)}(ok:HOk P w H h)(e:H a=some (.dK kvs)):kvs.length<=aB/\(a==ff)=false/\∃vs,KV kvs vs/\h.DictOf (eY P w) a vs:=Ad ok (.inl e)
theorem wB{ks:List Key}(ok:HOk P w H h)(e:H a=some (.tup (ks.map kV))):(yI (eY P w)).is h ks a:=by
 obtain⟨_,Z,r,o,h1,h2,n,Y⟩:=(show eE P w H h a (.tup (ks.map kV)) from ok a _ e);exact{o,Z.toArray,n,h1,h2,Y,by simpa using yd r}
theorem Ae{kvs:List (List Key×V)}(ok:HOk P w H h)(e:Rd H a (.dT kvs)):kvs.length<=aB/\(a==ff)=false /\
  ∃xs,KT H kvs xs/\h.DictOfH (yI (eY P w)) a xs:=by
 obtain⟨z,y,xs,r,o,es,ep,h1,h2,U,Z,Y⟩:=(show eE P w H h a (.dT kvs) from Lm ok e);refine{z,y,xs,r,o,es,ep,h1,h2,U,Z,fun x hx=>?_,Y};have all:∀{l:List (List Key×V)} {m:List (List Key×aa×af)},KT H l m->∀x∈m,(yI (eY P w)).is h x.1 x.2.1:=by
  intro l m q
  induction q with
  |nil=>intro x hx;exact nomatch hx
  |@cons p q ps qs hq t W=>
   intro x hx
   rcases ar.mp hx with e|hx
   ·subst e;exact wB ok (by rw[<- hq.1];exact hq.2.1)
   ·exact W x hx
 exact all r x hx
theorem dt_of{kvs:List (List Key×V)}(ok:HOk P w H h)(e:H a=some (.dT kvs)):kvs.length<=aB/\(a==ff)=false /\
  ∃xs,KT H kvs xs/\h.DictOfH (yI (eY P w)) a xs:=Ae ok (.inl e)
end
def pU(H:Hp)(a:aa)(y:V)(r:Option V):Prop:=
 (∃kvs k,Rd H a (.dK kvs)/\y=kV k/\r=jL kvs k)\/∃kvs k b,Rd H a (.dT kvs)/\y=.ref b/\H b=some (.tup (k.map kV))/\r=jL kvs k
def sQ(H:Hp)(a:aa)(y v:V)(H':Hp):Prop:=
 (∃kvs k,H a=some (.dK kvs)/\y=kV k/\kvs.length<aB/\H'=upd H a (.dK (ja kvs k v))) \/
 ∃kvs k b,H a=some (.dT kvs)/\y=.ref b/\H b=some (.tup (k.map kV))/\kvs.length<aB/\H'=upd H a (.dT (ja kvs k v))
theorem pU.k{H:Hp}{a:aa}{kvs:List (Key×V)}{k:Key}(e:H a=some (.dK kvs)):pU H a (kV k) (jL kvs k):=.inl {kvs,k,.inl e,rfl,rfl}
theorem sQ.k{H:Hp}{a:aa}{kvs:List (Key×V)}{k:Key}{v:V}(e:H a=some (.dK kvs))(hl:kvs.length<aB):sQ H a (kV k) v (upd H a (.dK (ja kvs k v))):=.inl ⟨kvs,k,e,rfl,hl,rfl⟩
section
variable{X:Cx}{pins:List (aa×Obj)}{σ:St}{H:Hp}{s:ak}{a:aa}{y v:V}{u r:af}{o:Option V}{A:bZ}{E:af->ak->Prop}
theorem Inv.big(I:Inv X pins σ H s):ff<s.heap.objs.size:=by
 have h:bJ<s.heap.objs.size:=(I.mod.glob.keeps I.bk).lt;exact qq (by decide) h
theorem Es{Q:af->ak->Prop}(hu:A.units+1<eK)(I:Inv X pins σ H s)(g:pU H a y (some v))(O:RelV y u)(h:∀W s',Inv X pins σ H s'->RelV v W->Q W s') :
  aX (bf X.prog X.w) A (A2 (.ref a) u) Q E s:=by
 rcases g with⟨kvs,k,e,V,l⟩|⟨kvs,k,b,e,V,M,l⟩
 ·subst V;obtain⟨z,hd,vs,Y,dd⟩:=Ad I.hok e;obtain⟨W,hw,Z⟩:=rB.some_of (v:=v) (o:=p6 vs k) (by rw[l];exact Y.val k);exact wpAny_getItem_of (wA O) dd.mapOf hw (h W _ (I.tok _) Z)
 ·subst V
  cases (show u=Value.ref b from O);obtain⟨z,hd,xs,Y,dd⟩:=Ae I.hok e;obtain⟨W,hw,Z⟩:=rB.some_of (v:=v) (o:=(By xs k).map (·.2)) (by rw[l];exact Y.val k);obtain⟨p,hp,U⟩:=iq.mp hw;refine wpAny_getItem_heap (oU hu) (wB I.hok M) dd hp ?_;rw[U];exact h W _ (I.tok _) Z
theorem d_in{Q:af->ak->Prop}(hu:A.units+1<eK)(I:Inv X pins σ H s)(g:pU H a y o)(W:RelV y u)(h:∀s',Inv X pins σ H s'->Q (.bool o.isSome) s') :
  aX (bf X.prog X.w) A (cU .In u (.ref a)) Q E s:=by
 rcases g with⟨kvs,k,e,Y,l⟩|⟨kvs,k,b,e,Y,V,l⟩
 ·subst Y;obtain⟨z,hd,vs,Z,dd⟩:=Ad I.hok e;refine wpAny_in_of (wA W) hd dd.mapOf ?_;rw[<- (Z.val k).isSome_eq,<- l];exact h _ (I.tok _)
 ·subst Y
  cases (show u=Value.ref b from W);obtain⟨z,hd,xs,Z,dd⟩:=Ae I.hok e;refine wpAny_in_heap (oU hu) (wB I.hok V) hd dd ?_;have q:=(Z.val k).isSome_eq;rw[m9]at q;rw[<- q,<- l];exact h _ (I.tok _)
theorem Jw{Q:af->ak->Prop}(hu:A.units+1<eK)(I:Inv X pins σ H s)(g:pU H a y o)(W:RelV y u)(h:∀s',Inv X pins σ H s'->Q (.bool (!o.isSome)) s') :
  aX (bf X.prog X.w) A (cU .NotIn u (.ref a)) Q E s:=by
 rcases g with⟨kvs,k,e,Y,l⟩|⟨kvs,k,b,e,Y,V,l⟩
 ·subst Y;obtain⟨z,hd,vs,Z,dd⟩:=Ad I.hok e;refine wpAny_notIn_of (wA W) hd dd.mapOf ?_;rw[<- (Z.val k).isSome_eq,<- l];exact h _ (I.tok _)
 ·subst Y
  cases (show u=Value.ref b from W);obtain⟨z,hd,xs,Z,dd⟩:=Ae I.hok e;refine wpAny_notIn_heap (oU hu) (wB I.hok V) hd dd ?_;have q:=(Z.val k).isSome_eq;rw[m9]at q;rw[<- q,<- l];exact h _ (I.tok _)
theorem yV{h':cz}{t':Nat}{ob:HO}(I:Inv X pins σ H s)(Y:Mut (H a))(hs:uB a s.heap h')(Z:∃q,h'.get? a=some q)(new:eE X.prog X.w (upd H a ob) h' a ob) :
  Inv X pins σ (upd H a ob) {s with heap:=h',toks:=t'}:=
 I.write (x:=a) (e:=a) Y (.inl rfl) (fun b q hb z=>(hs.2 b hb).trans z) Z new
theorem yW{P:aN}{w:bL}{H':Hp}{h':cz}{kvs:List (Key×V)}{vs:List (Key×af)}(z:kvs.length<=aB)(hd:(a==ff)=false)(Z:KV kvs vs)(dd:h'.DictOf (eY P w) a vs) :
  eE P w H' h' a (.dK kvs):=⟨z,hd,vs,Z,dd⟩
theorem Et{H':Hp}{Q:Unit->ak->Prop}(hu:A.units+1<eK)(I:Inv X pins σ H s)(g:sQ H a y v H')(J:RelV y u)(D:RelV v r)(h:∀s',Inv X pins σ H' s'->Q () s') :
  aX (bf X.prog X.w) A (setItem (.ref a) u r) Q E s:=by
 rcases g with⟨kvs,k,e,W,l,V⟩|⟨kvs,k,b,e,W,M,l,V⟩
 ·subst W V;obtain⟨z,hd,vs,Z,dd⟩:=Ln I.hok e;have U:vs.length<=aB:=by rw[<- Z.length];exact z
  have hl:(ja kvs k v).length<=aB:=by have:=mO kvs k v;omega
  refine wpAny_setItem_pairs (hsz:=U) (wA J) dd fun h' Y hs=>h _ ?_;have he:∃q,h'.get? a=some q:=let ⟨q,_,_,hq,_⟩:=Y;⟨q,hq⟩;exact yV I (by rw[e];exact True.intro) hs he (yW hl hd (Z.put k D) Y)
 ·subst W V
  cases (show u=Value.ref b from J);obtain⟨z,hd,xs,Z,dd⟩:=dt_of I.hok e;have U:xs.length<=aB:=by rw[<- aZ Z];exact z
  have hl:(ja kvs k v).length<=aB:=by have:=mO kvs k v;omega
  refine wpAny_setItem_heap (hsz:=U) (oU hu) (wB I.hok M) dd fun h' Y hs=>h _ ?_;obtain⟨q,es,ep,hq,h2,h3,t,_,h5⟩:=Y;refine yV I (by rw[e];exact True.intro) hs ⟨q,hq⟩ {hl,hd,_,(Z.put k M D).keeps fun c ys O=>?_,q,es,ep,hq,h2,h3,t,h5};rw[aO (pG O e (fun z=>nomatch z))];exact O
end
section
variable{X:Cx}{pins:List (aa×Obj)}{σ:St}{H:Hp}{s:ak}{a:aa}{kvs:List (Key×V)}{k:Key}{u:af}{A:bZ}{E:af->ak->Prop}
end
def NoSl(i:cN):Prop:=∀Z Y,zT i false Z Y=operate [Z,Y] (A2 Z Y)
theorem Jx{prog:aN}{w:bL}{A:bZ}{E:af->ak->Prop}{s:ak}{env:Env}{value Z:cN}{pos:Pos}{T id:String}{Q:af->ak->Prop}
  (hl:Nd (.type T) "__getitem__"=pure (some (.builtin id))) (hs:NoSl Z)
  (h:aX (bf prog w) A (fg value env) (fun o V=>aX (bf prog w) A (fg Z env) (fun i Y=>Y.TypeIs o T/\aX (bf prog w) A (A2 o i) Q E Y) E V) E s) :
  aX (bf prog w) A (fg (.Subscript value Z pos) env) Q E s:=by
 refine Nf (eu h (fun o V U=>eu U (fun i Y W=>?_) fun _ _ x=>x) fun _ _ x=>x);obtain⟨O,W⟩:=W;unfold Ep;refine ax ?_;rw[getitemInPython_of_ne O.not_modules];refine ax (wpAny_specialOf O hl ?_);have fin:aX (bf prog w) A (zT Z false o i) (fun r s₃=>aX (bf prog w) A (letTemporaryGo value o r >>= fun _=>pure r) Q E s₃) E Y:=by
  rw[hs o i];exact wpAny_operating (eu W (fun r s₃ h₃=>ax (wpAny_letTemporaryGo (bK h₃))) fun _ _ x=>x)
 first
  |exact bK (ax fin)
  |exact ax (bK (ax fin))
  |exact ax fin
theorem Af{X:Cx}{pins:List (aa×Obj)}{σ:St}{H:Hp}{s:ak}{a:aa}{y:V}{o:Option V}(I:Inv X pins σ H s)(g:pU H a y o):s.TypeIs (.ref a) "dict":=by
 rcases g with⟨kvs,k,e,_,_⟩|⟨kvs,k,b,e,_,_,_⟩
 ·obtain⟨_,_,vs,_,dd⟩:=Ad I.hok e;exact dd.typeIs
 ·obtain⟨_,_,xs,_,dd⟩:=Ae I.hok e;exact dd.typeIs
inductive DGI(x y:V)(H:Hp)(Q:VK):Prop where
 |mk(a:aa)(v:V)(hx:x=.ref a)(d:pU H a y (some v))(q:Q v H):DGI x y H Q
def tDGet(td ty:TE):TE:=fun σ H Q=>td σ H fun x H1=>ty σ H1 fun y H2=>DGI x y H2 Q
def tDIn(ty td:TE):TE:=fun σ H Q=>ty σ H fun y H1=>td σ H1 fun x H2=>∃a o,x=.ref a/\pU H2 a y o/\Q (.bl o.isSome) H2
def Jy(ty td:TE):TE:=fun σ H Q=>ty σ H fun y H1=>td σ H1 fun x H2=>∃a o,x=.ref a/\pU H2 a y o/\Q (.bl (!o.isSome)) H2
def sDPut(td ty tv:TE):TS:=fun D σ H=>tv σ H fun v H1=>td σ H1 fun x H2=>ty σ H2 fun y Y=>∃a Z,x=.ref a/\sQ Y a y v Z/\D.nx σ Z
section
variable{X:Cx}{o i e value:cN}{pos pos' tpos:Pos}{td ty tv:TE}
theorem q8(hu:X.A.units+1<eK)(ho:PE X o td)(hi:PE X i ty)(hs:NoSl i):PE X (.Subscript o i pos) (tDGet td ty):=by
 intro pins s σ H Q I h;refine Jx PySem.F.slot_dict_getitem.lookup hs (thn (ho pins s σ H _ I h) fun u O ⟨x,H1,W,U,J⟩=>thn (hi pins O σ H1 _ W J) fun iv s2 ⟨y,H2,Y,M,a,v,ex,g,V⟩=>?_);subst ex;obtain rfl:u=Value.ref a:=U;exact{Af Y g,Es hu Y g M fun z t D Z=>⟨v,H2,D,Z,V⟩}
theorem FV(hu:X.A.units+1<eK)(hi:PE X i ty)(ho:PE X o td):PC X .In i o (tDIn ty td):=by
 intro pins s σ H Q I h;refine thn (hi pins s σ H _ I h) fun t U ⟨y,H1,Z,O,M⟩=>thn (ho pins U σ H1 _ Z M) fun u s2 ⟨x,H2,V,W,a,D,ex,g,Y⟩=>?_;subst ex;obtain rfl:u=Value.ref a:=W;exact d_in hu V g O fun z J=>{.bl D.isSome,H2,J,rfl,Y}
theorem Eu(hu:X.A.units+1<eK)(hi:PE X i ty)(ho:PE X o td):PC X .NotIn i o (Jy ty td):=by
 intro pins s σ H Q I h;refine thn (hi pins s σ H _ I h) fun t U ⟨y,H1,Z,O,M⟩=>thn (ho pins U σ H1 _ Z M) fun u s2 ⟨x,H2,V,W,a,D,ex,g,Y⟩=>?_;subst ex;obtain rfl:u=Value.ref a:=W;exact Jw hu V g O fun z J=>{.bl (!D.isSome),H2,J,rfl,Y}
theorem kW(hu:X.A.units+1<eK)(ho:PE X o td)(hi:PE X i ty)(hv:PE X value tv)(hs:uD value (some (.Subscript o i pos')) pos.line X.env=pure false) :
  PS X (.Assign [.Subscript o i pos'] value pos) (sDPut td ty tv):=by
 intro pins s σ H D I h;refine wpAny_Assign_Subscript (thn (hv pins s σ H _ I h) fun r O ⟨v,H1,Z,rv,z⟩=>thn (ho pins O σ H1 _ Z z) fun u s2 ⟨x,H2,V,W,Y⟩=>thn (hi pins s2 σ H2 _ V Y) fun iv s3 ⟨y,H3,t,J,a,H4,ex,g,M⟩=>?_) hs;subst ex;obtain rfl:u=Value.ref a:=W;exact Et hu t g J rv fun s4 U=>⟨σ,H4,U,M⟩
end
theorem Ag{P:aN}{w:bL}{H:Hp}(h:cz)(hb:ff<h.objs.size):eE P w H (h.push {cls:=.type "dict",data:=.dict #[]}) h.objs.size (.dK []):=
 {bU _,beq_eq_false_iff_ne.mpr (gj (aR hb)),[],.nil,A3 h}
def Nm:TE:=fun _ H Q=>∀p,H p=none->Q (.ref p) (upd H p (.dK []))
section
variable{X:Cx}{pos:Pos}
theorem qv:PE X (.Dict [] [] pos) Nm:=fun pins s σ H Q I h=>
 wpAny_Dict_empty {.ref s.heap.objs.size,_,I.laid (a:=s.heap.objs.size) (o:=.dK []) (t':=s.toks) (fun _ _ q=>aJ _ q) (aD _) (Ag s.heap I.big),rfl,h _ (I.hok.fresh (aD _))}
end
def Bz:List (TE×TE)->St->Hp->(List (V×V)->Hp->Prop)->Prop
 | [],_,H,Q=>Q [] H
 |(tk,tv)::r,σ,H,Q=>tk σ H fun x H1=>tv σ H1 fun y H2=>Bz r σ H2 fun ps Z=>Q ((x,y)::ps) Z
abbrev VV:List (V×V)->List (af×af)->Prop:=aP fun p q=>RelV p.1 q.1/\RelV p.2 q.2
def PPs(X:Cx)(pos:Pos)(keys:List (Option cN))(Z:List cN)(Y:List (TE×TE)):Prop:=
 ∀(pins:List (aa×Obj)) (s:ak) (σ:St) (H:Hp) (Q:List (V×V)->Hp->Prop),Inv X pins σ H s->Bz Y σ H Q ->
  aX (bf X.prog X.w) X.A (evalPairs (pairTrees keys Z X.env pos)) (fun vs s'=>∃ps H',Inv X pins σ H' s'/\VV ps vs/\Q ps H') X.xe s
theorem Cp{X:Cx}{pos:Pos}:PPs X pos [] [] []:=fun pins s σ H Q I h=>pairTrees_nil_walk {[],H,I,.nil,h}
theorem Ah{X:Cx}{pos:Pos}{k v:cN}{ks:List (Option cN)}{vs:List cN}{tk tv:TE}{Z:List (TE×TE)}(hk:PE X k tk)(hv:PE X v tv)(hr:PPs X pos ks vs Z) :
  PPs X pos (some k::ks) (v::vs) ((tk,tv)::Z):=fun pins s σ H Q I h=>
 pairTrees_cons_walk (thn (hk pins s σ H _ I h) fun u J ⟨x,H1,W,O,t⟩=>thn (hv pins J σ H1 _ W t) fun w2 s2 ⟨y,H2,M,z,U⟩=>
  thn (hr pins s2 σ H2 _ M U) fun ws s3 ⟨ps,V,g,Y,D⟩=>{(x,y)::ps,V,g,.cons ⟨O,z⟩ Y,D})
def kO(kvs more:List (Key×V)):List (Key×V):=more.foldl (fun Z Y=>ja Z Y.1 Y.2) kvs
theorem KV.merge:∀{more:List (Key×V)} {rs:List (Key×af)} {kvs:List (Key×V)} {vs:List (Key×af)},KV more rs->KV kvs vs->KV (kO kvs more) (merged vs rs):=by
 intro more rs kvs vs r;unfold KV at r
 induction r generalizing kvs vs with
 |nil=>intro q;exact q
 |@cons p q ps qs h t Z=>
  intro r0;have e:KV (ja kvs p.1 p.2) (wz vs q.1 q.2):=by
   have:=r0.put p.1 h.2;rw[<- h.1];exact this
  exact Z e
theorem rK:∀(more kvs:List (Key×V)),(kO kvs more).length<=kvs.length+more.length
 | [],kvs=>by show kvs.length<=kvs.length+0;omega
 |p::r,kvs=>by
  have h1:=rK r (ja kvs p.1 p.2);have h2:=mO kvs p.1 p.2;show (kO (ja kvs p.1 p.2) r).length<=_;rw[aT];omega
theorem wC{P:aN}{w:bL}:∀{kvs:List (Key×V)} {Y:List (af×af)},VV (kvs.map fun Z=>(kV Z.1,Z.2)) Y->∃rs,Carries (eY P w) Y rs/\KV kvs rs
 | [],_,r=>by rw[uJ]at r;cases r;exact{[],True.intro,.nil}
 |p::kvs,_,r=>by
  rw[b9]at r
  cases r with
  |@cons a b O bs h t=>
   obtain⟨rs,c,q⟩:=wC (P:=P) (w:=w) t;obtain⟨U,W⟩:=b;exact{(p.1,W)::rs,{wA h.1,rfl,c},.cons ⟨rfl,h.2⟩ q}
def tDisp(Z:List (TE×TE)):TE:=fun σ H Q=>∀p,H p=none->Bz Z σ (upd H p (.dK [])) fun ps H2=>H2 p=some (.dK [])/\∃kvs:List (Key×V),ps=kvs.map (fun Y=>(kV Y.1,Y.2))/\kvs.length<=15/\Q (.ref p) (upd H2 p (.dK (kO [] kvs)))
theorem Cq{X:Cx}{pos:Pos}{keys:List (Option cN)}{Z:List cN}{W:List (TE×TE)}(h:PPs X pos keys Z W)(Y:keys.all (·.isSome)=true)(hl:keys.length=Z.length)(h0:keys≠[])
  (O:keys.length<=15):PE X (.Dict keys Z pos) (tDisp W):=by
 intro pins s σ H Q I q;have g:=I.hok.fresh (aD s.heap.objs.size);have J:=I.laid (a:=s.heap.objs.size) (o:=.dK []) (h':=s.heap.push {cls:=.type "dict",data:=.dict #[]}) (t':=s.toks) (fun _ _ q=>aJ _ q) (aD _) (Ag s.heap I.big);refine wpAny_Dict_walk (knd:=eY X.prog X.w) Y hl h0 O (thn (h pins _ σ _ _ J (q _ g)) fun ws s2 ⟨ps,H2,M,U,e,kvs,ep,lk,D⟩=>?_);subst ep;obtain⟨rs,c,rk⟩:=wC (P:=X.prog) (w:=X.w) U;obtain⟨z,hd,t,r0,dd⟩:=Ln M.hok e
 cases r0;refine{rs,c,dd,fun h' V hs=>{.ref s.heap.objs.size,_,?_,rfl,D}};have hz:(kO [] kvs).length<=aB:=by
  have h1:=rK kvs [];rw[cw]at h1;rw[mi];omega
 have he:∃q,h'.get? s.heap.objs.size=some q:=let ⟨q,_,_,hq,_⟩:=V;⟨q,hq⟩;exact yV M (by rw[e];exact True.intro) hs he (yW hz hd (rk.merge .nil) V)
section
variable{X:Cx}{pins:List (aa×Obj)}{σ:St}{H:Hp}{s:ak}{a:aa}{y d:V}{u r:af}{o:Option V}{A:bZ}{E:af->ak->Prop}
end
section
variable{X:Cx}{o e f:cN}{apos cpos:Pos}{td ty tx:TE}
end
section
variable{X:Cx}{pins:List (aa×Obj)}{σ:St}{H:Hp}{s:ak}{a:aa}{kvs:List (Key×V)}{A:bZ}{E:af->ak->Prop}
end
section
variable{X:Cx}{pins:List (aa×Obj)}{σ:St}{H:Hp}{s:ak}{a:aa}{y:V}{u:af}{A:bZ}{E:af->ak->Prop}
end
section
variable{X:Cx}
end
section
variable{κ:Type}[DecidableEq κ]
theorem FW{kvs:List (κ×V)}{k:κ}(h:jL kvs k=none):¬k∈kvs.map (·.1):=by
 intro m;obtain⟨p,hp,e⟩:=cB.mp m;have q:(kvs.any fun Z=>decide (Z.1=k))=true:=IT.mpr {p,hp,decide_eq_true e};rw[kf,h]at q;exact absurd q (by simp)
theorem Cr{kvs:List (κ×V)}{k:κ}{v:V}(h:jL kvs k=some v):k∈kvs.map (·.1):=by
 have q:(kvs.any fun Z=>decide (Z.1=k))=true:=by
  rw[kf,h]
  all_goals rfl
 obtain⟨p,hp,e⟩:=IT.mp q;exact cB.mpr {p,hp,of_decide_eq_true e}
theorem yX:∀{l:List κ} {k:κ},l.Nodup->¬k∈l->(l++[k]).Nodup
 | [],k,_,_=>by simp
 |a::r,k,h,hk=>by
  obtain⟨h1,h2⟩:=cG.mp h;show (a::(r++[k])).Nodup;refine cG.mpr {fun m=>?_,yX h2 fun m=>hk (ar.mpr (Or.inr m))}
  rcases bY.mp m with q|q
  ·exact h1 q
  ·exact hk (ar.mpr (Or.inl (aE.mp q).symm))
end
end L2
set_option maxHeartbeats 4000000
namespace L2
open PySem PySem.Spec PyProof.Rows
theorem eE.has{P:aN}{w:bL}{H:Hp}{h:cz}{a:aa}{o:HO}(x:eE P w H h a o):∃ob,h.get? a=some ob:=by
 cases o with
 |lst xs=>obtain⟨_,_,_,_,e⟩:=x;exact{_,e}
 |tup xs=>obtain⟨_,_,_,ob,e,_⟩:=x;exact{_,e}
 |dK kvs=>obtain⟨_,_,_,_,o,_,_,e,_⟩:=x;exact{_,e}
 |dT kvs=>obtain⟨_,_,_,_,o,_,_,e,_⟩:=x;exact{_,e}
 |set S n=>obtain⟨o,_,_,_,e,_⟩:=x;exact{_,e}
 |ins C dx fs=>obtain⟨_,_,_,e,_⟩:=x;exact{_,e}
 |own y=>exact x
 |xd fs=>obtain⟨_,⟨_,_,_,e,_⟩,_⟩:=x;exact{_,e}
 |rng lo hi=>obtain⟨_,_,_,e⟩:=x;exact{_,e}
 |frz ob u=>obtain⟨e,_⟩:=x;exact{_,e}
 |tbl ps=>exact{_,(show h.get? a=some _ from x)}
 |met f y=>exact{_,(show h.get? a=some _ from x)}
 |ext φ=>obtain⟨_,e,_⟩:=x;exact e
theorem HOk.has{P:aN}{w:bL}{H:Hp}{h:cz}(x:HOk P w H h){b:aa}(n:H b≠none):∃ob,h.get? b=some ob:=by
 cases z:H b with
 |none=>exact absurd z n
 |some u=>exact (x b u z).has
def FlD(B:cz)(l:List Env)(e:aa)(cls fl:af)(h:cz):Prop:=
 B.StaysIn h/\B.get? e=none/\h.FunFrames B l/\∃Z vs T W Y,h.get? e=some Z/\Z.cls=cls/\Z.dict=none/\Z.data=.fields vs/\vs[1]?=some (.ref T)/\B.get? T=none/\T≠e/\h.get? T=some W/\W.data=.fields Y/\Y[3]?=some fl
theorem Ew(o:Obj)(f:Array af->Array af):(o.mapFields f).dict=o.dict:=by
 obtain⟨c,d,Z,sl⟩:=o
 cases Z<;>rfl
section
variable{M:Jb}{A:bZ}{E:af->ak->Prop}{s:ak}{B:cz}{env:Env}{outer l:List Env}{L e:aa}{cls fl:af}{Q:Unit->ak->Prop}
theorem Ai{Y:Obj}{vs:Array af}{Z:af}{nx:Bool}(O:A.frames=some (env::outer))(hl:s.heap.FunFrames B (env::outer))(t:env.frame=some L)(V:s.heap.get? e=some Y)(hB:B.StaysIn s.heap)(I:B.get? e=none)
  (hd:Y.data=.fields vs) (D:1<vs.size) (U:Y.dict=none) (k:∀h',FlD B (env::outer) e Y.cls (tS L) h'->s.heap.UpToSlots h'->Q () {s with heap:=h'}) :
  aX M A (do let a <- frameOf env;let pl <- entryPlaceOf L nx;let b <- yY Z a .none (tS L) .none pl;setField (.ref e) 1 b) Q E s:=by
 have g:e∉(env::outer).filterMap (·.frame):=fun hm=>by
  obtain⟨_,o,ho,q⟩:=hl.mem hm;rw[V]at ho
  cases ho;exact q vs hd
 refine ax (wpAny_frameOf_fun O hl t fun h1 g1=>ax (wpAny_entryPlaceOf fun pl W=>?_));unfold yY newFields;refine ax (O3 ?_ (W.sizeOk5 _ _ _ _ _));have e1:h1.get? e=some Y:=(g1.2.1 e g).trans V;have H:B.StaysIn h1:=fun b o z=>(g1.2.1 b fun hm=>by rw[(hl.mem hm).1]at z;cases z).trans (hB b o z);have ne:h1.objs.size≠e:=qe (aQ e1);generalize hob:({cls:=.type "traceback",dict:=none,data:=.fields ([Z,.ref L,.none,tS L,.none]++(if pl.isEmpty then cD 6 Value.none else pl)).toArray}:Obj)=ob;have J:(h1.push ob).get? e=some Y:=aJ _ e1;have t2:(h1.push ob).get? h1.objs.size=some ob:=cy h1 (by rw[<- hob];rfl);refine BA J hd D (k _ ?_ ?_)
 ·have d3:=t7 hd (·.setIfInBounds 1 (Value.ref h1.objs.size));have keep:∀b o,b≠e->h1.get? b=some o->((h1.push ob).update e (tN (·.setIfInBounds 1 (Value.ref h1.objs.size)))).get? b=some o:=fun b o q z=>by
   rw[fV _ _ (gj q)];exact aJ _ z
  refine{fun b o z=>keep b o (fun q=>by rw[q,I]at z;cases z) (H b o z),I,hl.of_keeps fun b o z q=>?_,_,_,h1.objs.size,ob,_,qZ _ J (Cs d3),Obj.cls_mapFields _ _,(Ew _ _).trans U,d3,by simp[D],H.fresh,ne,?_,by rw[<- hob],?_}
  ·obtain⟨sl,w⟩:=g1.2.2 b o z;exact{_,keep b _ (fun y=>by rw[y,V]at z;cases z;exact q vs hd) w,rfl}
  ·rw[fV _ _ (gj ne)];exact t2
  ·first|(simp;done)|(rcases W with rfl|⟨_,_,_,_,_,_,_,rfl⟩<;>simp)
 ·intro b o z q;obtain⟨sl,w⟩:=g1.2.2 b o z;refine{sl,?_};rw[fV _ _ (fun y=>by rw[<- y,V]at z;cases z;exact q vs hd)];exact aJ _ w
theorem vv{T:aa}{W:Obj}{Y:Array af}{h:cz}(V:h.get? T=some W)(Z:W.data=.fields Y){b:aa}{o:Obj}(hb:h.get? b=some o)(q:∀vs,o.data≠.fields vs):b≠T:=fun y=>by
 rw[y,V]at hb
 cases hb;exact q Y Z
theorem yZ(W:A.frames=some (env::outer))(V:env.frame=some L)(x:FlD B (env::outer) e cls .none s.heap)(k:∀h',FlD B (env::outer) e cls (tS L) h'->s.heap.UpToSlots h'->Q () {s with heap:=h'}) :
  aX M A (Fj (.ref e) env) Q E s:=by
 obtain⟨J,H,hl,oe,vs,T,oT,ts,U,rfl,Y,hd,h1,t,I,Z,dT,O⟩:=x;unfold Fj;simp only[V];refine ax (zU U hd h1 ?_);rw[if_pos (show (Value.ref T != Value.none)=true from by simp)];refine ax (zU Z dT O ?_);rw[if_neg (show ¬((Value.none==tS L)=true) from by simp[tS])];refine ax (BA Z dT (mB.mp O).1 ?_);have ot:∀b,b≠T->(s.heap.update T (tN (·.setIfInBounds 3 Value.none))).get? b=s.heap.get? b:=fun b hb=>fV _ _ (gj hb);refine Ai (s:={s with heap:=s.heap.update T (tN (·.setIfInBounds 3 Value.none))}) W (hl.of_keeps fun b o z q=>{o,(ot b (vv Z dT z q)).trans z,rfl}) V ((ot e (gj I)).trans U)
  (fun b o z=>(ot b fun y=>by rw[y,t]at z;cases z).trans (J b o z)) H hd (mB.mp h1).1 Y fun h' D g=>k h' D fun b o z q=>g b o ((ot b (vv Z dT z q)).trans z) q
theorem nY(x:FlD B l e cls fl s.heap)(k:∀h',FlD B l e cls .none h'->s.heap.UpToSlots h'->Q () {s with heap:=h'}):aX M A (setFlight (.ref e) none) Q E s:=by
 obtain⟨H,D,hl,I,vs,T,g,J,U,hc,Y,hd,h1,W,V,Z,dT,t⟩:=x;have O:3<J.size:=(mB.mp t).1;have ot:∀b,b≠T->(s.heap.update T (tN (·.setIfInBounds 3 ((none:Option aa).elim Value.none fun f=>tS f)))).get? b=s.heap.get? b:=fun b hb=>fV _ _ (gj hb);unfold setFlight;refine ax (zU U hd h1 ?_);rw[if_pos (show (Value.ref T != Value.none)=true from by simp)];refine BA Z dT O (k _ {fun b o z=>(ot b fun y=>by rw[y,W]at z;cases z).trans (H b o z),D,hl.of_keeps fun b o z q=>{o,(ot b (vv Z dT z q)).trans z,rfl},I,vs,T,_,_,(ot e (gj V)).trans U,hc,Y,hd,h1,W,V,qZ _ Z (Cs (t7 dT _)),t7 dT _,by simp[O]}
  fun b o z q=>{o.slots,(ot b (vv Z dT z q)).trans z})
theorem FlD.tail(x:FlD B (env::outer) e cls fl s.heap):FlD B outer e cls fl s.heap:=by
 obtain⟨a,b,⟨_,_,c⟩,d⟩:=x;exact⟨a,b,c,d⟩
theorem FlD.there{h:cz}(x:FlD B l e cls fl h):∃ob,h.get? e=some ob/\ob.cls=cls:=by
 obtain⟨_,_,_,Z,_,_,_,_,Y,hc,_⟩:=x;exact⟨Z,Y,hc⟩
theorem Ey(Z:A.frames=some (env::outer))(W:env.frame=some L)(x:FlD B (env::outer) e cls .none s.heap)(k:∀h',FlD B outer e cls .none h'->s.heap.UpToSlots h'->Q () {s with heap:=h'}):aX M A (A1 env (.ref e)) Q E s:=by
 unfold A1;refine ax (yZ Z W x fun h1 x1 u1=>nY (s:={s with heap:=h1}) x1 fun h2 Y u2=>k h2 (FlD.tail (s:={s with heap:=h2}) Y) (u1.trans u2))
theorem Jz{h:cz}{args:List af}(Z:A.frames=some (env::outer))(Y:env.frame=some L)(W:B.StaysIn h)(hl:h.FunFrames B (env::outer))(x:Lo h s.heap e cls args)
  (k:∀h',FlD B outer e cls .none h'->s.heap.UpToSlots h'->Q () {s with heap:=h'}):aX M A (A1 env (.ref e)) Q E s:=by
 obtain⟨t,V,O,ht⟩:=x.there;have en:B.get? e=none:=by
  cases q:B.get? e with
  |none=>rfl
  |some o=>have z:=W e o q;rw[x.new]at z;cases z
 unfold A1 Fj;simp only[Y];refine ax (ax (zU (x:=Value.none) V rfl rfl ?_));rw[if_neg (show ¬((Value.none != Value.none)=true) by decide)];exact Ai Z (hl.of_keeps fun b o z _=>{o,x.keeps b o z,rfl}) Y V (fun b o z=>x.keeps b o (W b o z)) en rfl (show 1<6 by decide) rfl fun h1 x1 u1=>nY (s:={s with heap:=h1}) x1 fun h2 U u2=>k h2 (FlD.tail (s:={s with heap:=h2}) U) (u1.trans u2)
end
def Fly(B:cz)(stk:List Env)(Z C:aa)(h:cz):Prop:=FlD B stk Z (.ref C) .none h
def CXo(P:aN)(w:bL):CXT:=fun outer H s E e s'=>
 ∃(Z C:aa) (H':Hp) (B:cz),e=.ref Z/\E (.ref C) none H'/\s'.os=s.os/\pY s'.gens/\Un (frs outer) [] H H' s.heap s'.heap/\HOk P w H' s'.heap/\Fly B outer Z C s'.heap /\
  ∀b o,(H' b≠none\/∃o',s.heap.get? b=some o')->b∉frs outer->s'.heap.get? b=some o->B.get? b=some o
theorem Un.left{fs stk:List aa}{H₀ H:Hp}{h₀ h h' B:cz}(u:Un fs [] H₀ H h₀ h)(W:B.StaysIn h')(Z:∀b o,(H b≠none\/∃o',h₀.get? b=some o')->b∉stk->h.get? b=some o->B.get? b=some o)
  (hst:∀b o,h₀.get? b=some o->b∈stk->b∈fs) (sl:∀b∈fs,∀o,h.get? b=some o->∃sl,h'.get? b=some {o with slots:=sl}):Un fs [] H₀ H h₀ h' where
 keep:=fun b o e n hb hx=>W b o (Z b o (.inr ⟨o,e⟩) (fun z=>hb (hst b o e z)) (u.keep b o e n hb hx))
 slot:=fun b o e n hb hx=>by
  obtain⟨U,e1⟩:=u.slot b o e n hb hx;obtain⟨s2,Y⟩:=sl b hb _ e1;exact⟨s2,Y⟩
 free:=u.free
 there:=fun b o e hx=>by
  obtain⟨o',V⟩:=u.there b o e hx
  by_cases hb:b∈stk
  ·obtain⟨s2,Y⟩:=sl b (hst b o e hb) _ V;exact{_,Y}
  ·exact{o',W b o' (Z b o' (.inr ⟨o,e⟩) hb V)}
 tups:=u.tups
 frzs:=u.frzs
 tbls:=u.tbls
theorem HOk.left{P:aN}{w:bL}{H:Hp}{h h' B:cz}(ok:HOk P w H h)(Y:B.StaysIn h')(Z:∀b o,H b≠none->h.get? b=some o->B.get? b=some o):HOk P w H h':=fun a o e=>
 (ok a o e).stay (fun b u hb q=>Y b u (Z b u (by
  rcases hb with z|z
  ·rw[z,e];simp
  ·rw[z];simp) q)) (fun _ q=>q) (fun _ _ q=>q)
section
variable{X:Cx}{pins:List (aa×Obj)}{σ:St}{H:Hp}{s:ak}{E E':XK}
theorem Inv.oldfs(I:Inv X pins σ H s):∀b o,X.s₀.heap.get? b=some o->b∈frs X.stack->b∈X.fs:=fun b o e hb=>by
 rcases ar.mp (I.stkSub b hb) with z|z
 ·exact absurd (bD (aQ e) I.ok.above) (by rw[z];exact g9 _)
 ·exact z
theorem Inv.ntr(I:Inv X pins σ H s):∀b,H b≠none->b∉frs X.stack:=fun b Z z=>Z (I.stkFree b z)
theorem Inv.slotsOf(I:Inv X pins σ H s){h':cz}(sm:s.heap.UpToSlots h'):∀b∈X.fs,∀o,s.heap.get? b=some o->∃sl,h'.get? b=some {o with slots:=sl}:=fun b hb o e=>by
 obtain⟨_,o',Z,hd⟩:=I.funs.mem hb;rw[e]at Z
 cases Z;exact sm b o e hd
structure uL(X:Cx)(E:XK):Prop where
 stk:X.stack=X.env::X.outer
 fr:X.env.frame=some X.env.locals
 ex:X.ex=[]
 xe:X.xe=fun e s'=>aX (bf X.prog X.w) X.A (A1 X.env e) (fun _ s''=>CXo X.prog X.w X.outer X.H₀ X.s₀ E e s'') (fun e' s''=>CXo X.prog X.w X.outer X.H₀ X.s₀ E e' s'') s'
theorem dP{P:aN}{w:bL}{K:ae}{mg:Str->Option af}{base:cz}{N:List Str}{Y:Str}{Z:mh}{f:aa}{W:af}{A:bZ}{outer:List Env} :
  uL (tY (CXo P w) P w K mg base N Y Z f W A outer s H E) E:=⟨rfl,rfl,rfl,rfl⟩
theorem uL.raises(hb:uL X E)(I:Inv X pins σ H s){h':cz}{e C:aa}{vs:List af}(hx:Lo s.heap h' e (.ref C) vs)(q:E (.ref C) none H):X.xe (.ref e) {s with heap:=h'}:=by
 rw[hb.xe];have U:X.A.frames=some (X.env::X.outer):=by rw[I.ok.frames,hb.stk]
 have O:∀env∈X.stack,∀a,env.frame=some a->a∈frs X.stack:=fun env t a ha=>tL.mpr ⟨env,t,ha⟩;have fl:s.heap.FunFrames (pH s.heap (frs X.stack)) (X.env::X.outer):=by
  have z:=PySem.W.funFrames_hide I.stack O;rw[hb.stk]at z |-;exact z
 have D:Un X.fs [] X.H₀ H X.s₀.heap s.heap:=by
  have z:=I.base;rw[hb.ex]at z;exact z
 have Z:∀b o,b∉frs X.stack->s.heap.get? b=some o->(pH s.heap (frs X.stack)).get? b=some o:=fun b o n e=>AY _ e n;refine Jz (B:=pH s.heap (frs X.stack)) (h:=s.heap) U hb.fr (fun b o z=>A9 _ z) fl hx fun Y x1 g=>?_;have sm:s.heap.UpToSlots Y:=(O4 hx.keeps).trans g;refine{e,C,H,_,rfl,q,I.os,I.bare,D.left (stk:=frs X.stack) x1.1 (fun b o _ n e=>Z b o n e) I.oldfs (I.slotsOf sm),I.hok.left x1.1 (fun b o n e=>Z b o (I.ntr b n) e),x1,?_};intro b o c n e1;have nb:b∉frs X.stack:=by
  rcases c with c|⟨o',c⟩
  ·exact I.ntr b c
  ·exact fun z=>n (I.oldfs b o' c z)
 obtain⟨V,M⟩:∃V,s.heap.get? b=some V:=by
  rcases c with c|⟨o',c⟩
  ·exact I.hok.has c
  ·exact D.there b o' c (by simp)
 have e3:Y.get? b=some V:=x1.1 b V (Z b V nb M);have J:Y.get? b=some o:=e1;rw[e3]at J
 cases J;exact Z b _ nb M
theorem uL.passes(hb:uL X E)(hE:∀c d H,E' c d H->E c d H):lH (CXo X.prog X.w) X E':=fun pins σ H s e s' I h=>by
 obtain⟨g,C,H',B,rfl,q,os,bare,un,hok,fl,U⟩:=h;have J:Inv X pins σ H' s':=I.call' (ch:=[]) os un hok bare (fun b z=>absurd z (by simp));rw[hb.xe];have O:X.A.frames=some (X.env::X.outer):=by rw[I.ok.frames,hb.stk]
 have t:Un X.fs [] X.H₀ H' X.s₀.heap s'.heap:=by
  have z:=J.base;rw[hb.ex]at z;exact z
 have ui:Un X.fs [] X.H₀ H X.s₀.heap s.heap:=by
  have z:=I.base;rw[hb.ex]at z;exact z
 have Z:∀b o,(H' b≠none\/∃o',X.s₀.heap.get? b=some o')->b∉frs X.stack->s'.heap.get? b=some o->B.get? b=some o:=fun b o c n e=>
  U b o (c.imp_right fun⟨o',z⟩=>ui.there b o' z (by simp)) n e
 have V:FlD B (X.env::X.outer) g (.ref C) .none s'.heap:=by
  rw[<- hb.stk];exact fl
 refine Ey O hb.fr V fun W x1 x2=>?_;refine{g,C,H',B,rfl,hE _ _ _ q,J.os,J.bare,t.left (stk:=frs X.stack) x1.1 Z J.oldfs (J.slotsOf x2),J.hok.left x1.1 (fun b o n e=>Z b o (.inl n) (J.ntr b n) e),x1,?_};intro b o c n e1;have nb:b∉frs X.stack:=by
  rcases c with c|⟨o',c⟩
  ·exact J.ntr b c
  ·exact fun z=>n (J.oldfs b o' c z)
 obtain⟨Y,M⟩:∃Y,s'.heap.get? b=some Y:=by
  rcases c with c|⟨o',c⟩
  ·exact J.hok.has c
  ·exact t.there b o' c (by simp)
 have e3:W.get? b=some Y:=x1.1 b Y (Z b Y c nb M);have D:W.get? b=some o:=e1;rw[e3]at D
 cases D;exact Z b _ c nb M
end
section
variable{X:Cx}{E:XK}{x:Str}{C:aa}{np cpos pos:Pos}{e₀:cN}{rest:List cN}{ta:TA}{K:ae}{h:cz}
theorem JA{U:List af}{Z:String}(X:K.In h)(q:cP K C U Z=true) :
  ∃bm N nm q bs hdct sn sub ab col dd k0 k1 k2 k3 k5 mN,h.get? C=some (excClassObj nm q C N bs bm hdct sn sub ab col dd k0 k1 k2 k3 k5 Z)/\h.Ns N mN/\mN "__init__"=none/\OwnTail h U bm:=by
 unfold cP at q
 split at q
 ·rename_i dd cd sl ho
  split at q
  ·rename_i C' bm k0 k1 k2 k3 n k5 hm hs
   simp only[kF,beq_iff_eq,Bool.not_eq_true']at q;obtain⟨⟨⟨⟨⟨rfl,rfl⟩,Y⟩,ht⟩,hok⟩,V⟩:=q;obtain⟨nm,bs,J,ns,qn,hd,sn,sub,ab,col,M⟩:=cd;dsimp only at hm Y hok V;subst hm Y;have e:sl=#[k0,k1,k2,k3,some (.builtin n),k5]:=by
    obtain⟨l⟩:=sl;have O:l=[k0,k1,k2,k3,some (.builtin n),k5]:=hs;rw[O]
   subst e;exact{bm,ns,nm,qn,bs,hd,sn,sub,ab,col,dd,k0,k1,k2,k3,k5,_,X _ _ ho,.of_isNs (PySem.W.isNs_of_in X hok),PySem.W.nsMap_none_of_in X hok V,PySem.W.tail_of_in X ht}
  ·cases q
 ·cases q
def oV:List af:=[.type "ValueError",.type "Exception",.type "BaseException",.type "object"]
def Nn(C:aa)(E:XK)(ta:TA):TS:=fun _ σ H=>ta σ H fun vs H1=>vs.length<=aB/\E (.ref C) none H1
theorem jB(hb:uL X E)(hc:X.calm=true)(M:Gl X x)(hm:X.mg x=some (.ref C))(hx:cP X.K C oV "ValueError.__new__"=true)(ha:PA X (e₀::rest) ta)
  (hd:(x==("__debug__":Str))=false:=by decide) (V:cu (e₀::rest) X.env=(false,fg e₀ X.env)::cu rest X.env:=by rfl) (W:(iN cpos (cu rest X.env)).any (·.1)=false:=by rfl) :
  PS X (.Raise (some (.Call (.Name x np) (e₀::rest) [] cpos)) none pos) (Nn C E ta):=by
 intro pins s σ H D I h;obtain⟨bm,N,nm,q,bs,hdct,sn,sub,ab,col,dd,k0,k1,k2,k3,k5,mN,O,U,Y,T⟩:=JA I.ok.mod.kin hx;have base:oV.contains (.type "BaseException")=true:=F.excBase_ValueError.hasBase;refine wpAny_Raise_call_subT (C:=C) (nm:=nm) (q:=q) (N:=N) (bs:=bs) (bm:=bm) (hdct:=hdct) (sn:=sn) (sub:=sub) (ab:=ab) (col:=col) (dd:=dd) (k0:=k0) (k1:=k1) (k2:=k2) (k3:=k3) (k5:=k5)
  F.excBase_ValueError (mN:=mN) (T.hasType base) (I.ok.hd hc) (by rw[V];show (false||(iN cpos (cu rest X.env)).any (·.1))=false;rw[W];rfl) Y (qW I M hm {rfl,?_} hd)
 have h1:=ha cpos pins s σ H _ I h;rw[V]at h1 |-;refine Bv (eu h1 (fun us s2 z=>?_) fun _ _ y=>y);obtain⟨vs,H1,Z,r,hl,J⟩:=z;exact{rfl,by rw[<- r.length];exact hl,Z.bk _ _ O,U.keeps Z.bk,T.keeps Z.bk,fun h' e hm=>hb.raises Z hm J}
end
section
variable{X:Cx}{pins:List (aa×Obj)}{σ:St}{H:Hp}{s:ak}{T:aa->St->Hp->Prop}
def xJ(X:Cx)(pins:List (aa×Obj))(H:Hp)(B h:cz):Prop:=
 ∀b o,(H b≠none\/(b∉X.ex/\∃o',X.s₀.heap.get? b=some o')\/∃p∈X.pn++pins,p.1=b)->b∉frs X.stack->h.get? b=some o->B.get? b=some o
def tryW(X:Cx)(pins:List (aa×Obj))(T:aa->St->Hp->Prop):af->ak->Prop:=fun e s'=>
 ∃Z C B σ H,e=.ref Z/\Inv X pins σ H s'/\Fly B X.stack Z C s'.heap/\xJ X pins H B s'.heap/\T C σ H
abbrev Cx.tr(X:Cx)(pins:List (aa×Obj))(T:aa->St->Hp->Prop):Cx:={X with xe:=tryW X pins T,pn:=X.pn++pins}
theorem Inv.tr(I:Inv X pins σ H s)(T:aa->St->Hp->Prop):Inv (X.tr pins T) [] σ H s:=
 ⟨⟨I.ok.mod,I.ok.kind,I.ok.glob,I.ok.blt,I.ok.above,I.ok.inj,I.ok.has,I.ok.cab,I.ok.hd,I.ok.frames,I.ok.stk,I.ok.exf,I.ok.bs,I.ok.bsz,I.ok.noex,I.ok.exfs,I.ok.funs,I.ok.frf⟩,I.os,I.bare,I.base,I.loc,I.cell,I.free,I.freeC,
  fun p hp=>I.pin p (by simpa using hp),I.hok,I.len⟩
theorem Inv.untr{Z:List (aa×Obj)}(I:Inv (X.tr pins T) Z σ H s):Inv X pins σ H s:=
 ⟨⟨I.ok.mod,I.ok.kind,I.ok.glob,I.ok.blt,I.ok.above,I.ok.inj,I.ok.has,I.ok.cab,I.ok.hd,I.ok.frames,I.ok.stk,I.ok.exf,I.ok.bs,I.ok.bsz,I.ok.noex,I.ok.exfs,I.ok.funs,I.ok.frf⟩,I.os,I.bare,I.base,I.loc,I.cell,I.free,I.freeC,
  fun p hp=>I.pin p (gU _ hp),I.hok,I.len⟩
theorem Ct{h h':cz}{c:aa}{v:Option af}(x:h.IsCell c v)(sm:h.UpToSlots h'):h'.IsCell c v:=by
 obtain⟨o,ho,hd⟩:=x;obtain⟨sl,e⟩:=sm c o ho (fun vs q=>by rw[hd]at q;cases q);exact{_,e,hd}
theorem Inv.landed{B h':cz}(I:Inv X pins σ H s)(W:B.StaysIn h')(Z:xJ X pins H B s.heap)(sm:s.heap.UpToSlots h'):Inv X pins σ H {s with heap:=h'}:=by
 refine{I.ok,I.os,I.bare,{fun b o e n hb hx=>?_,fun b o e n hb hx=>?_,I.base.free,fun b o e hx=>?_,I.base.tups,I.base.frzs,I.base.tbls},?_,fun x c e=>?_,I.free,I.freeC,fun p hp=>?_,I.hok.left W (fun b o n e=>Z b o (.inl n) (I.ntr b n) e),I.len}
 ·exact W b o (Z b o (.inr (.inl ⟨hx,o,e⟩)) (fun z=>hb (I.oldfs b o e z)) (I.base.keep b o e n hb hx))
 ·obtain⟨O,e1⟩:=I.base.slot b o e n hb hx;obtain⟨s2,Y⟩:=I.slotsOf sm b hb _ e1;exact⟨s2,Y⟩
 ·obtain⟨o',V⟩:=I.base.there b o e hx
  by_cases hb:b∈frs X.stack
  ·obtain⟨s2,Y⟩:=I.slotsOf sm b (I.oldfs b o e hb) _ V;exact{_,Y}
  ·exact{o',W b o' (Z b o' (.inr (.inl ⟨hx,o,e⟩)) hb V)}
 ·obtain⟨m,U,hl⟩:=I.loc;refine{m,sm.ns U,fun i x v e1 Y e3=>?_};obtain⟨u,r,l⟩:=hl i x v e1 Y e3;refine{u,r,?_}
  rcases l with l|⟨k,c,e,l⟩
  ·exact .inl l
  ·exact .inr {k,c,e,Ct l sm}
 ·obtain⟨v,q⟩:=I.cell x c e;exact{v,Ct q sm}
 ·obtain⟨e,n,l,f,d⟩:=I.pin p hp;exact{W _ _ (Z p.1 p.2 (.inr (.inr ⟨p,hp,rfl⟩)) (fun z=>(ar.mp (I.stkSub _ z)).elim l f) e),n,l,f,d}
theorem xJ.land{B h':cz}(I:Inv X pins σ H s)(V:B.StaysIn h')(Z:xJ X pins H B s.heap):xJ X pins H B h':=fun b o c n e=>by
 obtain⟨Y,e1⟩:∃Y,s.heap.get? b=some Y:=by
  rcases c with c|⟨hx,o',c⟩|⟨p,hp,rfl⟩
  ·exact I.hok.has c
  ·exact I.base.there b o' c hx
  ·exact{_,(I.pin p hp).1}
 have W:=V b Y (Z b Y c n e1);rw[e]at W
 cases W;exact Z b _ c n e1
abbrev Cx.hdl(X:Cx)(Z:aa):Cx:={X with A:=X.A.mark (some (.ref Z)),calm:=false,xe:=fun _ _=>False}
theorem Inv.hdl(I:Inv X pins σ H s)(Z:aa):Inv (X.hdl Z) pins σ H s:=
 ⟨{I.ok.mod,I.ok.kind,I.ok.glob,I.ok.blt,I.ok.above,I.ok.inj,I.ok.has,I.ok.cab,fun z=>vw z,I.ok.frames,I.ok.stk,I.ok.exf,I.ok.bs,I.ok.bsz,I.ok.noex,I.ok.exfs,I.ok.funs,I.ok.frf},I.os,I.bare,I.base,I.loc,I.cell,I.free,I.freeC,
  I.pin,I.hok,I.len⟩
theorem Inv.unhdl{Z:aa}(ok:X.Ok)(I:Inv (X.hdl Z) pins σ H s):Inv X pins σ H s:=⟨ok,I.os,I.bare,I.base,I.loc,I.cell,I.free,I.freeC,I.pin,I.hok,I.len⟩
theorem SP.unhdl{Y:aa}{D:m5}{f:Flow}{s':ak}(ok:X.Ok)(h:SP (X.hdl Y) pins D f s'):SP X pins D f s':=by
 cases f with
 |next=>obtain⟨Z,H',I,q⟩:=h;exact{Z,H',I.unhdl ok,q}
 |brk=>obtain⟨Z,H',I,q⟩:=h;exact{Z,H',I.unhdl ok,q}
 |cont=>obtain⟨Z,H',I,q⟩:=h;exact{Z,H',I.unhdl ok,q}
 |ret u=>obtain⟨v,Z,H',I,r,q⟩:=h;exact{v,Z,H',I.unhdl ok,r,q}
abbrev TH:=aa->TS
def PHs(X:Cx)(hs:List jM)(th:TH):Prop:=
 ∀(pins:List (aa×Obj)) (s:ak) (σ:St) (H:Hp) (D:m5) (Z C:aa) (B:cz),Inv X pins σ H s->Fly B X.stack Z C s.heap->xJ X pins H B s.heap->th C D σ H ->
  aX (bf X.prog X.w) X.A (handleBy (.ref Z) X.env hs) (SP X pins D) X.xe s
def thNil:TH:=fun _ _ _ _=>False
theorem y7:PHs X [] thNil:=fun _ _ _ _ _ _ _ _ _ _ _ h=>h.elim
def Np(K:ae)(Z:aa)(t:TS)(th:TH):TH:=fun C D σ H=>
 (cm K (.ref C) (.ref Z)=some true/\t D σ H)\/(cm K (.ref C) (.ref Z)=some false/\th C D σ H)
theorem wD{x:Str}{g:aa}{np pos:Pos}{Y:cT}{Z:List cT}{rest:List jM}{t:TS}{th:TH}(hg:Gl X x)(hm:X.mg x=some (.ref g))(M:∀W,PSs (X.hdl W) (Y::Z) t)(hr:PHs X rest th)
  (hd:(x==("__debug__":Str))=false:=by decide):PHs X (.ExceptHandler (some (.Name x np)) none (Y::Z) pos::rest) (Np X.K g t th):=by
 intro pins s σ H D W C B I fl V h;refine Lp (IU ?_) (by intro q;cases q);refine qW (X:=X.hdl W) (I.hdl W) hg hm ?_ hd;obtain⟨ob,U,hc⟩:=fl.there;have LT:IV (bf X.prog X.w) s.heap (typeOf (.ref W)) (.ref C):=by
  rw[<- hc];exact (y8 U).andThen .now
 rcases h with⟨hx,q⟩|⟨hx,q⟩
 ·refine (pK I.kIn LT hx).here ?_;refine codeAny_handlers_suite (nY fl fun h6 O J=>?_);have I6:=I.landed O.1 V J;exact eu (M W pins _ σ H D (I6.hdl W) q) (fun f s2 z=>SP.unhdl I.ok z) (fun _ _ z=>cI z)
 ·refine (pK I.kIn LT hx).here ?_;exact hr pins s σ H D W C B I fl V q
def tTry(T:aa->St->Hp->Prop)(tb:TS)(th:TH):TS:=fun D σ H=>tb D σ H/\∀C Z H',Z.length=σ.length->T C Z H'->th C D Z H'
theorem FX{W:List cT}{h₀:jM}{hs:List jM}{pos:Pos}{tb:TS}{th:TH}(T:aa->St->Hp->Prop)(hb:∀pins,PSs (X.tr pins T) W tb)(hh:PHs X (h₀::hs) th)
  (hst:X.stack=X.env::X.outer:=by rfl) (U:X.env.frame=some X.env.locals:=by rfl):PS X (.Try W (h₀::hs) [] [] pos) (tTry T tb th):=by
 intro pins s σ H D I h;obtain⟨h1,h2⟩:=h;refine wpAny_Try_except (eu (hb pins [] s σ H D (I.tr T) h1) (fun f M q=>?_) (fun e M q=>?_))
 ·cases f with
  |next=>obtain⟨Z,H',J,q⟩:=q;exact m7 ⟨Z,H',J.untr,q⟩
  |ret v=>obtain⟨v,Z,H',J,r,q⟩:=q;exact⟨v,Z,H',J.untr,r,q⟩
  |brk=>obtain⟨Z,H',J,q⟩:=q;exact⟨Z,H',J.untr,q⟩
  |cont=>obtain⟨Z,H',J,q⟩:=q;exact⟨Z,H',J.untr,q⟩
 ·obtain⟨z,C,B,Z,H',rfl,J,fl,V,t⟩:=q;have O:FlD B (X.env::X.outer) z (.ref C) .none M.heap:=by
   rw[<- hst];exact fl
  refine yZ (by rw[J.ok.frames,hst]) U O fun h4 x4 g=>?_;refine nY x4 fun h5 Y s5=>?_;have J5:=J.landed Y.1 V (g.trans s5);rw[<- hst]at Y;exact hh pins _ Z H' D z C B J5 Y (xJ.land J Y.1 V) (h2 C Z H' (by rw[J.len,I.len]) t)
def y9(CX:CXT)(X:Cx)(E:St->XK):Prop:=∀(pins:List (aa×Obj)) (σ:St) (H:Hp) (s:ak) (e:af) (s':ak),Inv X pins σ H s->CX X.stack H s (E σ) e s'->X.xe e s'
def tryE(T:aa->St->Hp->Prop):St->XK:=fun σ c _ H=>∃C,c=.ref C/\T C σ H
theorem rT:y9 (CXo X.prog X.w) (X.tr pins T) (tryE T):=fun Z σ H s e s' I h=>by
 obtain⟨V,C,H',B,rfl,⟨O,W,q⟩,os,bare,un,hok,fl,Y⟩:=h
 cases W;have J:Inv (X.tr pins T) Z σ H' s':=I.call' (ch:=[]) os un hok bare (fun b z=>absurd z (by simp));refine{V,C,B,σ,H',rfl,J.untr,fl,fun b o c n e=>Y b o ?_ n e,q}
 rcases c with c|⟨c1,o',U⟩|⟨p,hp,rfl⟩
 ·exact .inl c
 ·exact .inr (I.base.there b o' U c1)
 ·exact .inr {_,(I.pin p (gU _ hp)).1}
def Nq(sp:Sp)(E:St->XK)(t:TA):TE:=fun σ H Q=>t σ H fun vs H1=>sp vs H1 Q (E σ)
variable{CX:CXT}{k:Nat}{f:aa}{fd:bR}{ps:List Str}{sp:Sp}{E:St->XK}{x:Str}{p pos:Pos}{e:cN}{es:List cN}{t:TA}
theorem Aj(F:bA X.prog X.w X.K X.mg X.base CX k f fd ps sp)(hr:cQ k X.A)(O:Gl X x)(hm:X.mg x=some (.ref f))(hk:gF X.K (.ref f)=true)(hb:Binds X.K fd ps [])(hx:y9 CX X E)(ha:PA X (e::es) t)
  (V:(x==("__debug__":Str))=false:=by decide) (M:cu (e::es) X.env=(false,fg e X.env)::cu es X.env:=by rfl) (U:(iN pos (cu es X.env)).any (·.1)=false:=by rfl) :
  PE X (.Call (.Name x p) (e::es) [] pos) (Nq sp E t):=by
 intro pins s σ H Q I h;refine gQ (qW I O hm ?_ V);refine jq (h₀:=X.base) I.ok.mod.kin hk (thn (ha pos pins s σ H _ I h) fun us W z=>?_) M U;obtain⟨vs,H1,Z,r,q⟩:=z;refine{Z.kIn,?_};have hl:(us++[]).length=ps.length:=by
  rw[cv,<- r.length];exact F.len _ _ _ _ q
 have Y:=hb W us Z.kIn hl;rw[cv]at Y;refine wj (kK (F.run X.A X.stack W H1 {us,[]} us vs Q (E σ) hr Z.env0 Y r q) fun r s' hq=>?_)
 cases r with
 |error e=>exact hx pins σ H1 W e s' Z hq
 |ok fl=>
  cases fl with
  |ret u=>exact Z.after hq
  |next=>exact cI hq
  |brk=>exact cI hq
  |cont=>exact cI hq
end
theorem Fun.okX{P:aN}{w:bL}{K:ae}{mg:Str->Option af}{base:cz}{x Z:Str}{st:cT}{f:aa}{fd:bR}{N ps:List Str}{k:Nat}{sp:Sp}(F:Fun K x Z st f fd)(S:bM N ps (aM st))(len:∀vs H Q E,sp vs H Q E->vs.length=ps.length)
  (W:∀(Y:af) (A:bZ) (outer:List Env) (s:ak) (H:Hp) (vs:List V) (Q:VK) (E:XK),cQ k (A.deeper (tZ Z (aM st) s.heap.objs.size f Y))->sp vs H Q E ->
   ∃t,PSs (tY (CXo P w) P w K mg base N Z (aM st) f Y A outer s H E) (ji st) t/\t {nx:=fun _ H'=>Q .non H',rt:=Q} (start N vs) H):bA P w K mg base (CXo P w) (k+1) f fd ps sp:=by
 obtain⟨z,od,kV,M,pm,D,Y,ct,J,rfl,I,U⟩:=F.ex;exact Ll I U S len fun A outer s H vs Q E hr O=>W Y A outer s H vs Q E hr O
theorem za{prog:aN}{w:bL}{A:bZ}{R:Nb->ak->Prop}{s:ak}{U Z W:cN}{V:List cN}{Y:mh}{pos:Pos}{it O:af}{env:Env}(J:Nat->ak->Prop)
  (turn:∀n s,J n s->aX (bf prog w) A (pyNext it) (fun r I=>match r with
   |none=>R (.ok .next) I
   |some v=>aX (bf prog w) A (r9 Z it v) (fun _ s2=>aX (bf prog w) A (yL Z env v) (fun _ t=>
     aX (bf prog w) A (forIn V true fun c r=>if r=true then do let ok <- Fp c env (fg c env);pure (ForInStep.yield ok) else pure (ForInStep.yield r)) (fun ok M=>
      if ok=true then aX (bf prog w) A (fg U env) (fun x g=>aX (bf prog w) A (xu (.builtin "list.append") [O,x]) (fun _ H=>∃m,m<n/\J m H) (fun _ _=>False) g) (fun _ _=>False) M
      else ∃m,m<n/\J m M) (fun _ _=>False) t) (fun _ _=>False) s2) (fun _ _=>False) I) (fun _ _=>False) s)
  (n:Nat) (h:J n s):p4 (bf prog w) A (.compLoop (.ListComp U [{Z,W,V,0}] Y pos) 0 it O env) R s:=by
 refine codeAny_loop rfl J (fun n s hI=>?_) n h;show aX _ A ((compTurn (.ListComp U [{Z,W,V,0}] Y pos) 0 it O env).onRaise
  (fun x=>do Fj x env;theTreesLotGoes x)) _ _ s
 refine wpAny_noted ?_;rw[compTurn_list];refine ax (Ee (ax (eu (turn n s hI) (fun r I h1=>?_) fun _ _ z=>z.elim)))
 cases r with
 |none=>exact bK h1
 |some v=>
  refine ax (eu h1 (fun _ s2 h2=>?_) fun _ _ z=>z.elim);refine ax (eu h2 (fun _ t h3=>?_) fun _ _ z=>z.elim);refine ax (eu h3 (fun ok M D=>?_) fun _ _ z=>z.elim)
  cases ok with
  |false=>exact bK ⟨rfl,D⟩
  |true=>
   refine ax (ax (eu D (fun x g h5=>?_) fun _ _ z=>z.elim));exact ax (eu h5 (fun _ H h6=>bK (bK ⟨rfl,h6⟩)) fun _ _ z=>z.elim)
theorem Ak{env:Env}:∀{names:List (Str×kL)} {x:Str},
  (names.map fun (n,k)=>if (k==NameKind.free&&env.scope.kind==.function&&env.kindOf n==some .cell) then (n,NameKind.cell) else (n,k)).lookup x=some .local->names.lookup x=some .local
 | [],_,h=>by simp at h
 |(n,k)::r,x,h=>by
  have Z:=@Ak env r x;rw[b9]at h;dsimp only at h
  by_cases hc:(k==NameKind.free&&env.scope.kind==.function&&env.kindOf n==some .cell)=true
  ·rw[if_pos hc]at h
   cases hx:x==n with
   |true=>simp[cE,hx]at h
   |false=>
    simp only[cE,hx]at h |-;exact Z h
  ·rw[if_neg hc]at h
   cases hx:x==n with
   |true=>
    simp only[cE,hx]at h |-;exact h
   |false=>
    simp only[cE,hx]at h |-;exact Z h
theorem zb{env:Env}:∀{names:List (Str×kL)} {x:Str},
  ((names.map fun (n,k)=>if (k==NameKind.free&&env.scope.kind==.function&&env.kindOf n==some .cell) then (n,NameKind.cell) else (n,k)).lookup x=some .cell \/
   (names.map fun (n,k)=>if (k==NameKind.free&&env.scope.kind==.function&&env.kindOf n==some .cell) then (n,NameKind.cell) else (n,k)).lookup x=some .free)->names.lookup x=some .cell\/names.lookup x=some .free
 | [],_,h=>by simp at h
 |(n,k)::r,x,h=>by
  have Z:=@zb env r x;rw[b9]at h;dsimp only at h
  by_cases hc:(k==NameKind.free&&env.scope.kind==.function&&env.kindOf n==some .cell)=true
  ·rw[if_pos hc]at h;have hk:k=.free:=by
    have z:=(rL.mp (rL.mp hc).1).1;exact eq_of_beq z
   cases hx:x==n with
   |true=>
    simp only[cE,hx];rw[hk];exact .inr rfl
   |false=>
    simp only[cE,hx]at h |-;exact Z h
  ·rw[if_neg hc]at h
   cases hx:x==n with
   |true=>
    simp only[cE,hx]at h |-;exact h
   |false=>
    simp only[cE,hx]at h |-;exact Z h
def qx(env:Env):List (Str×kL)->List (Str×aa)->List (Str×aa)
 | [],Z=>Z
 |(n,k)::r,Z=>qx env r (if k=.free then (match env.cells.lookup n with|some c=>(n,c)::Z|none=>Z) else Z)
theorem Al{env:Env}:∀(names:List (Str×kL)) (Z:List (Str×aa)),(∀y∈names,y.2=.free->∃c,env.cells.lookup y.1=some c) ->
  (forIn names Z fun x r=>(do
   if (x.2==NameKind.free)=true then do
    let c <- cellOf env x.1
    pure (ForInStep.yield ((x.1,c)::r))
   else pure (ForInStep.yield r):Sem (ForInStep (List (Str×aa)))))=(pure (qx env names Z):Sem (List (Str×aa)))
 | [],Z,_=>rfl
 |(n,k)::r,Z,h=>by
  have V:=fun W=>Al r W (fun y hy=>h y (ah _ hy));rw[List.forIn_cons]
  by_cases hk:k=.free
  ·subst hk;obtain⟨c,hc⟩:=h _ aC rfl;have e1:cellOf env n=pure c:=by
    unfold cellOf;rw[show env.cells.lookup n=some c from hc]
   have Y:qx env ((n,.free)::r) Z=qx env r ((n,c)::Z):=by
    show qx env r (if NameKind.free=.free then (match env.cells.lookup n with|some c=>(n,c)::Z|none=>Z) else Z)=_;rw[if_pos rfl,show env.cells.lookup n=some c from hc]
   rw[Y,<- V];simp[e1]
  ·have Y:qx env ((n,k)::r) Z=qx env r Z:=by
    show qx env r (if k=.free then _ else Z)=_;rw[if_neg hk]
   rw[Y,<- V];have e3:(k==NameKind.free)=false:=by
    cases k<;>first|rfl|exact absurd rfl hk
   simp[e3]
theorem Am{env:Env}:∀{names:List (Str×kL)} {Y:List (Str×aa)} {n:Str} {c:aa},(∀n c,Y.lookup n=some c->env.cells.lookup n=some c)->(qx env names Y).lookup n=some c->env.cells.lookup n=some c
 | [],_,_,_,h,e=>h _ _ e
 |(m,k)::r,Y,n,c,h,e=>by
  refine Am (names:=r) (fun V W Z=>?_) e
  by_cases hk:k=.free
  ·rw[if_pos hk]at Z
   cases hm:env.cells.lookup m with
   |none=>
    rw[hm]at Z;exact h _ _ Z
   |some d=>
    rw[hm]at Z;dsimp only at Z;rw[cE]at Z
    split at Z
    ·rename_i z
     rw[eq_of_beq z,hm];exact Z
    ·exact h _ _ Z
  ·rw[if_neg hk]at Z;exact h _ _ Z
theorem ye{env:Env}:∀(names:List (Str×kL)) (Z:List (Str×aa)) (n:Str),(∃c,Z.lookup n=some c)->∃c,(qx env names Z).lookup n=some c
 | [],_,_,h=>h
 |(m,k)::r,Z,n,h=>by
  refine ye r _ n ?_
  by_cases hk:k=.free
  ·rw[if_pos hk]
   cases hm:env.cells.lookup m with
   |none=>exact h
   |some d=>
    dsimp only;rw[cE]
    split
    ·exact{_,rfl}
    ·exact h
  ·rw[if_neg hk];exact h
theorem An{env:Env}:∀{names:List (Str×kL)} {Z:List (Str×aa)} {n:Str},(n,NameKind.free)∈names->(∃c,env.cells.lookup n=some c)->∃c,(qx env names Z).lookup n=some c
 | [],_,_,h,_=>by cases h
 |(m,k)::r,Z,n,h,hc=>by
  rcases ar.mp h with e|e
  ·obtain⟨e1,Y⟩:=Prod.mk.inj e;subst e1 Y;obtain⟨c,hc⟩:=hc;refine ye r _ n {c,?_};rw[if_pos rfl,hc];dsimp only;rw[cE,beq_self_eq_true]
  ·exact An (names:=r) e hc
structure iI(X:Cx)(scope:mh)(NN:List Str):Prop where
 nocell:∀y∈scope.names,y.2≠.cell
 kind:scope.kind=.function
 names:∀y∈scope.names,y.2=.local->scope.names.lookup y.1=some .local
 far:∀y∈scope.names,y.2=.free->X.env.kindOf y.1=some .cell\/X.env.kindOf y.1=some .free
 len:NN.length=X.N.length
 apart:∀(i:Nat) (n:Str),NN[i]?=some n->scope.names.lookup n≠some .local/\(X.N[i]?=some n\/scope.names.lookup n=none)
theorem iI.closed{X:Cx}{Z:mh}(Y:∀y∈Z.names,y.2≠.free)(hc:∀y∈Z.names,y.2≠.cell)(hk:Z.kind=.function)(W:∀y∈Z.names,y.2=.local->Z.names.lookup y.1=some .local)
  (ha:∀n∈X.N,Z.names.lookup n≠some .local):iI X Z X.N where
 nocell:=hc
 kind:=hk
 names:=W
 far:=fun y hy e=>absurd e (Y y hy)
 len:=rfl
 apart:=fun i n e=>{ha n (cq e),.inl e}
theorem iI.open{X:Cx}{Z:mh}{NN N:List Str}{sc:mh}(V:X.N=N)(Y:X.env.scope=sc)(hc:∀y∈Z.names,y.2≠.cell)(hk:Z.kind=.function)(O:∀y∈Z.names,y.2=.local->Z.names.lookup y.1=some .local)
  (U:∀y∈Z.names,y.2=.free->sc.names.lookup y.1=some .cell) (hl:NN.length=N.length) (ha:∀p∈NN.zip N,Z.names.lookup p.1≠some .local/\(p.2=p.1\/Z.names.lookup p.1=none)):iI X Z NN where
 nocell:=hc
 kind:=hk
 names:=O
 far:=fun y hy e=>.inl (by have z:=U y hy e;rw[<- Y]at z;exact z)
 len:=by rw[V];exact hl
 apart:=fun i n e=>by
  have lt:i<N.length:=by rw[<- hl];exact (aG.mp e).1
  have W:N[i]?=some N[i]:=aI lt;have z:=ha (n,N[i]) (cq (i:=i) (by rw[zc];exact⟨e,W⟩));refine{z.1,?_}
  rcases z.2 with z|z
  ·left
   rw[V,W];exact congrArg some z
  ·exact .inr z
abbrev cxC(X:Cx)(Z:mh)(V:List Str)(fp:List aa)(W:ak)(Y:Hp)(C:aa):Cx:=
 {X with N:=V,s₀:=W,H₀:=Y,env:=compEnvC Z (qx X.env Z.names []) C X.env,outer:=X.stack,ex:=fp,fn:=fun _=>false,pn:=[],xe:=fun _ _=>False}
def PTs(X:Cx)(Z:List cN)(t:TT):Prop:=
 ∀(pins:List (aa×Obj)) (s:ak) (σ:St) (H:Hp) (Q:Bool->Hp->Prop),Inv X pins σ H s->t σ H Q ->
  aX (bf X.prog X.w) X.A (forIn Z true fun c r=>if r=true then do let ok <- Fp c X.env (fg c X.env);pure (ForInStep.yield ok) else pure (ForInStep.yield r)) (TP X pins σ Q) X.xe s
def xK:TT:=fun _ H Q=>Q true H
theorem jY{X:Cx}:PTs X [] xK:=fun pins s σ H Q I h=>wpAny_tests_nil ⟨H,I,h⟩
theorem JB{X:Cx}{c:cN}{t:TT}(h:PT X c t):PTs X [c] t:=fun pins s σ H Q I q=>wpAny_tests_one (h pins s σ H Q I q)
def uM(n:Nat)(M:TI)(g:TG)(tc:TT)(te:TE):TE:=fun σ H Q=>M σ H fun J H1=>∃W:Nat->Nat->List V->Hp->Prop,(∃m,W 0 m [] H1)/\∀i m ys H,W i m ys H->ys.length<aB /\
 ((J.stop i H/\∀p,H p=none->Q (.ref p) (upd H p (.lst ys))) \/
  (J.go i H/\∃N:List V->Hp->Prop,(∀Y H',N Y H'->∃O,O<m/\W (i+1) O Y H')/\∀x H',J.yld i H x H'->g x (cD n none++σ) H' fun Z H2=>Z.drop n=σ/\tc Z H2 fun b U=>
   if b=true then te Z U fun y I=>N (ys++[y]) I else N ys U))
section
variable{X:Cx}
theorem Ao{σ Z:St}{n:Nat}(h:Z.drop n=σ)(i:Nat)(v:V)(e:(cD n none++σ)[i]?=some (some v)):Z[i]?=some (some v):=by
 by_cases hi:i<n
 ·rw[eO (by simpa using hi),pJ,if_pos hi]at e
  cases e
 ·rw[df (by simpa using hi),j9]at e;rw[<- h,Fk]at e;rw[show n+(i-n)=i by omega]at e;exact e
theorem Ap{gM O hR:cN}{gr:List cN}{Z:mh}{NN:List Str}{pos pos':Pos}{wi:TI}{g:TG}{tc:TT}{te:TE}{use:Option (af->Sem Unit)}{Qv:af->ak->Prop}(own:List Str)(ok:iI X Z NN)(hc:X.calm=true)(hi:PI X O hR wi)
  (hg:∀fp hS hT C,PG (cxC X Z (own++NN) fp hS hT C) O g) (ht:∀fp hS hT C,PTs (cxC X Z (own++NN) fp hS hT C) gr tc) (he:∀fp hS hT C,PE (cxC X Z (own++NN) fp hS hT C) gM te)
  (hs:∀x,p0 hR X.env x=pure x) {pins:List (aa×Obj)} {s:ak} {σ:St} {H:Hp} {Q:VK} (I:Inv X pins σ H s) (h:uM own.length wi g tc te σ H Q)
  (fz:∀(s4:ak) (C D:aa) (H':Hp) (m:Str->Option af),s4.heap.Ns C m->Inv X pins σ H' s4->H' C=none->C≠X.env.locals->X.s₀.heap.objs.size<=C->(∀x c,X.env.cells.lookup x=some c->c≠C)->(∀p∈X.pn++pins,p.1≠C)->Q (.ref D) H' ->
   compPost (bf X.prog X.w) X.A X.xe use Qv (.ref D) C (.ok .next) s4) :
  aX (bf X.prog X.w) X.A (comprehension (.ListComp gM [{O,hR,gr,0}] Z pos) Z X.env pos' (newList []) false (fg hR X.env) use) Qv X.xe s:=by
 have ft:∀y∈Z.names,y.2=.free->∃c,X.env.cells.lookup y.1=some c:=fun y hy e=>I.ok.has _ (ok.far y hy e);have hI:closureFor Z X.env=pure (qx X.env Z.names []):=by
  unfold closureFor;rw[<- Al Z.names [] ft];simp
 have Y:∀n c,(qx X.env Z.names []).lookup n=some c->X.env.cells.lookup n=some c:=fun n c e=>Am (fun n c e=>by simp at e) e;have hK:∀n,(Z.names.lookup n=some .cell\/Z.names.lookup n=some .free)->(∃c,(qx X.env Z.names []).lookup n=some c)/\(X.env.kindOf n=some .cell\/X.env.kindOf n=some .free):=fun n e=>by
  rcases e with e|e
  ·exact absurd rfl (ok.nocell _ (gy e))
  ·have m:=gy e;exact{An m (ft _ m rfl),ok.far _ m rfl}
 refine wpAny_comprehension_free (use:=use) rfl hs hI ok.kind ok.names (thn (hi pins s σ H _ I h) fun xv s1 h1=>thn h1 fun eo s2 h2=>?_);obtain⟨it,fp,tn,J,H2,e,t,T,gt,f2,W,⟨m0,w0⟩,turn⟩:=h2;subst e;have hO:∀b∈fp,b<s2.heap.objs.size:=fun b hb=>by
  obtain⟨o,e,_⟩:=T.obj _ _ gt b hb;exact aQ e
 refine O3 (wpAny_newFunctionEnv ok.nocell (by intro y hy;simp at hy) (fun h1 hj hH=>?_) ok.kind);dsimp only at hj hH |-;generalize hP:s2.heap.push {cls:=.type "list",dict:=none,data:=.seq ([]:List af).toArray}=P at hj hH |-;have hC:P.objs.size=s2.heap.objs.size+1:=by rw[<- hP,rJ]
 have gd:s2.heap.objs.size≠P.objs.size:=by rw[hC];exact aR (wg _)
 have hQ:s2.heap.objs.size<=P.objs.size:=by rw[hC];exact gp _
 have old:∀b o,s2.heap.get? b=some o->h1.get? b=some o:=fun b o e=>
  hH.extBut b o (by rw[hC];exact aR (iS (aQ e))) (aJ _ (hP ▸ aJ _ e))
 have gw:h1.get? s2.heap.objs.size=some {cls:=.type "list",data:=.seq ([]:List af).toArray 0}:=hH.extBut _ _ gd (aJ _ (hP ▸ cy _ rfl))
 -- the block's context is well made
 have gq:(cxC X Z (own++NN) fp s2 H2 P.objs.size).Ok:=by
  refine⟨I.ok.mod,ok.kind,I.ok.glob,I.ok.blt,by show s2.heap.objs.size<=P.objs.size;omega,fun y z c a b=>I.ok.inj y z c (Y _ _ a) (Y _ _ b),fun y hy=>(hK y (zb hy)).1,fun y c z _=>vw z,I.ok.hd,I.ok.frames,.inl rfl,
   fun b hb=>{fun z=>?_,fun y c e=>(f2 b hb).2.2.2.2.1 y c (Y _ _ e)},t.bs,dA I.ok.bsz t.sz,fun b o e hb=>?_,fun b hb z=>?_,t.stack,t.stkFree⟩
  ·exact aR (bD (hO b hb) hQ) z
  ·rcases (f2 b hb).2.2.2.1 with q|q
   ·exact I.ok.noex b o e q
   ·exact absurd (bD (aQ e) (dA I.ok.bsz q)) (g9 _)
  ·rcases ar.mp (t.stkSub b z) with q|q
   ·exact (f2 b hb).2.1 q
   ·exact (f2 b hb).2.2.1 q
 have fpOk:∀{H':Hp} {o:Obj},(∀b∈fp,H' b=none)->∀b∈fp,yM (cxC X Z (own++NN) fp s2 H2 P.objs.size) [(s2.heap.objs.size,o)] H' b:=fun {H' o} hn b hb=>by
  have lt:=hO b hb;refine{hn b hb,fun z=>?_,fun z=>gq.exfs b hb z,.inl hb,fun y c e=>(gq.exf b hb).2 y c e,fun p hp z=>?_}
  ·exact aR (bD lt hQ) z
  ·have ha:p=(s2.heap.objs.size,o):=by simpa using hp
   subst ha;exact aR lt (Eq.symm z)
 have hG:∀y c,(qx X.env Z.names []).lookup y=some c->c<s2.heap.objs.size:=fun y c e=>by
  obtain⟨v,q⟩:=t.cell y c (Y _ _ e);exact q.lt
 have start:Inv (cxC X Z (own++NN) fp s2 H2 P.objs.size) [] (cD own.length none++σ) H2 {s2 with heap:=h1,toks:=s2.toks+([]:List (Str×af)).length}:=by
  refine{gq,rfl,t.bare,Un.kept old,{_,hj,fun i y v e1 e2 e3=>?_},fun y c e=>?_,t.hok.fresh (by show s2.heap.objs.size<=P.objs.size;omega),fun y c e=>t.freeC y c (Y _ _ e),fun p hp=>absurd (show p∈([]:List (aa×Obj)) from by simpa using hp) (by simp),t.hok.kept old,?_}
  ·by_cases hi:i<own.length
   ·rw[eO (by simpa using hi),pJ,if_pos hi]at e2
    cases e2
   ·have eF:NN[i-own.length]?=some y:=by
     have z:(own++NN)[i]?=some y:=e1;rw[df (by omega)]at z;exact z
    rw[df (by simpa using hi),j9]at e2;obtain⟨er,ez⟩:=ok.apart _ y eF
    rcases e3 with e3|e3
    ·exact absurd (Ak e3) er
    ·obtain⟨⟨c,gl⟩,kc⟩:=hK y (zb e3);have et:X.N[i-own.length]?=some y:=by
      rcases ez with z|z
      ·exact z
      ·rcases zb e3 with q|q<;>(rw[z]at q;cases q)
     obtain⟨m,hn,hl⟩:=t.loc;obtain⟨u,r,l⟩:=hl (i-own.length) y v et e2 (.inr kc);refine{u,r,.inr {e3,c,gl,?_}}
     rcases l with⟨l,_⟩|⟨_,c',e',q⟩
     ·rcases kc with kc|kc<;>(rw[l]at kc;cases kc)
     ·rw[Y _ _ gl]at e'
      cases e';exact q.keeps old
  ·obtain⟨v,q⟩:=t.cell y c (Y _ _ e);exact{v,q.keeps old}
  ·show (cD own.length none++σ).length=(own++NN).length;rw[aA,aA,j9,t.len,ok.len]
 have hF:s2.heap.objs.size≠P.objs.size:=gd;have eL:s2.heap.objs.size∉frs X.stack:=fun z=>by
  rcases ar.mp (t.stkSub _ z) with q|q
  ·exact aR t.lt (Eq.symm q)
  ·exact t.nofs (aD _) q
 have hz:∀s₃:ak,s₃={s2 with heap:=h1,toks:=s2.toks+([]:List (Str×af)).length} ->
   p4 (bf X.prog X.w) X.A (.compLoop (.ListComp gM [{O,hR,gr,0}] Z pos) 0 (.ref it) (.ref s2.heap.objs.size) (compEnvC Z (qx X.env Z.names []) P.objs.size X.env))
    (compPost (bf X.prog X.w) X.A X.xe use Qv (.ref s2.heap.objs.size) P.objs.size) s₃:=by
  rintro s₃ rfl;refine za (fun n s'=>∃(i:Nat) (ys:List V) (H':Hp) (U:List af) (k:Nat),Inv (cxC X Z (own++NN) fp s2 H2 P.objs.size) [] (cD own.length none++σ) H' s'/\tn i s'.heap/\(∀b∈fp,H' b=none)/\H' s2.heap.objs.size=none/\cX ys U /\
   s'.heap.get? s2.heap.objs.size=some {cls:=.type "list",data:=.seq U.toArray k}/\W i n ys H') ?_ m0
   {0,[],H2,[],0,start,T.keep _ _ _ gt (fun b _ o e=>old b o e),fun b hb=>(f2 b hb).1,t.hok.fresh (aD _),.nil,gw,w0}
  rintro n s3 ⟨i,ys,H3,U,k,I3,fy,fx,nD,rv,hD,w3⟩;have Ip:Inv (cxC X Z (own++NN) fp s2 H2 P.objs.size) [(s2.heap.objs.size,{cls:=.type "list",data:=.seq U.toArray k})] (cD own.length none++σ) H3 s3:=I3.pins_of fun p hp=>by
   have ha:p=(s2.heap.objs.size,{cls:=.type "list",data:=.seq U.toArray k}):=by simpa using hp
   subst ha;exact{hD,nD,hF,eL,fun v z=>by cases z}
  obtain⟨hl,hw⟩:=turn i n ys H3 w3
  rcases hw with⟨stop,fin⟩|⟨go,N,hN,step⟩
  ·refine thn (T.done (cxC X Z (own++NN) fp s2 H2 P.objs.size) rfl rfl rfl hc i _ s3 _ H3 _ Ip (fpOk fx) fy stop) fun r s4 z=>?_;obtain⟨hr,I4⟩:=z;subst hr;obtain⟨m,hn,_⟩:=I4.loc;have ew:s4.heap.get? s2.heap.objs.size=some {cls:=.type "list",data:=.seq U.toArray k}:=(I4.pin _ (bj _ aC)).1;obtain⟨h',fo⟩:∃h',h'=s4.heap:={_,rfl};have hL:∀b o,b≠P.objs.size->s4.heap.get? b=some o->h'.get? b=some o:=fun b o hb e=>by rw[fo];exact e
   have hY:∀b o,s2.heap.get? b=some o->b≠P.objs.size/\b≠s2.heap.objs.size:=fun b o e=>by
    have lt:=aQ e;exact{aR (bD lt hQ),aR lt}
   have M:∀b u,H3 b=some u->b≠P.objs.size/\b≠s2.heap.objs.size:=fun b u e=>by
    refine{fun z=>?_,fun z=>?_}
    ·have q:H3 P.objs.size=none:=I4.free;rw[<- z,e]at q
     cases q
    ·rw[z,nD]at e
     cases e
   have un:Un (frs X.stack) fp H2 (upd H3 s2.heap.objs.size (.lst ys)) s2.heap h':=by
    have B:=I4.base;refine{fun b o e q hb hx=>hL b o (hY b o e).1 (B.keep b o e q hb hx),fun b o e q hb hx=>?_,fun b o e q hx=>?_,fun b o e hx=>?_,fun b xs e=>?_,fun b o u e=>?_,fun b ps e=>?_}
    ·obtain⟨sl,e1⟩:=B.slot b o e q hb hx;exact{sl,hL _ _ (hY b o e).1 e1}
    ·rw[aO (hY b o e).2];exact B.free b o e q hx
    ·obtain⟨o',e1⟩:=B.there b o e hx;exact{o',hL _ _ (hY b o e).1 e1}
    ·have q:=B.tups b xs e;rw[aO (M _ _ q).2];exact q
    ·have q:=B.frzs b o u e;rw[aO (M _ _ q).2];exact q
    ·obtain⟨more,q⟩:=B.tbls b ps e;refine{more,?_};rw[aO (M _ _ q).2];exact q
   have hok:HOk X.prog X.w (upd H3 s2.heap.objs.size (.lst ys)) h':=fun b u e=>by
    by_cases hb:b=s2.heap.objs.size
    ·subst hb;rw[ag]at e
     cases e;exact{jR hl,U,k,rv,hL _ _ hF ew}
    ·rw[aO hb]at e;refine (I4.hok b u e).stay (fun c v hc q=>hL c v ?_ q) (fun c q=>?_) fun c xs q=>?_
     ·rcases hc with z|z
      ·rw[z];exact (M _ _ e).1
      ·exact (M _ _ z).1
     ·rw[aO (M _ _ q).2];exact q
     ·rw[aO (M _ _ q).2];exact q
   have J:=t.call' (s':={s4 with heap:=h'}) (ch:=fp) I4.os un hok I4.bare fun b hb=>{(f2 b hb).2.2.2.1,(f2 b hb).2.1,(f2 b hb).2.2.2.2.1,(f2 b hb).2.2.2.2.2};subst fo;refine fz s4 P.objs.size s2.heap.objs.size (upd H3 s2.heap.objs.size (.lst ys)) m hn J ?_ ?_ ?_ (fun y c e=>?_) (fun q hq=>?_) (fin _ nD)
   ·rw[aO hF.symm];exact I4.free
   ·exact qe (bD t.lt hQ)
   ·exact dA t.sz hQ
   ·obtain⟨v,z⟩:=t.cell y c e;exact aR (bD z.lt hQ)
   ·exact aR (bD (aQ (t.pin q hq).1) hQ)
  ·refine thn (T.item (cxC X Z (own++NN) fp s2 H2 P.objs.size) rfl rfl rfl hc i _ s3 _ H3 _ Ip (fpOk fx) fy go) fun r s4 z=>?_;obtain⟨u,hr,h4⟩:=z;subst hr;refine thn h4 fun _ s5 z=>?_;obtain⟨x,H5,I5,r5,y5,hf,fa⟩:=z;have fk:=I5.pinned (fpOk fa) (T.obj _ _ hf);refine thn (hg fp s2 H2 P.objs.size _ s5 _ H5 x u _ fk r5 (step x H5 y5)) fun _ s6 z=>?_;obtain⟨hX,H6,I6,ge,q6⟩:=z;refine thn (ht fp s2 H2 P.objs.size _ s6 hX H6 _ I6 q6) fun fe s7 z=>?_;obtain⟨H7,I7,q7⟩:=z;have hE:∀{H8:Hp} {s8:ak},Inv (cxC X Z (own++NN) fp s2 H2 P.objs.size) ([(s2.heap.objs.size,{cls:=.type "list",data:=.seq U.toArray k})]++tT fp s5.heap) hX H8 s8 ->
     s8.heap.get? s2.heap.objs.size=some {cls:=.type "list",data:=.seq U.toArray k}/\H8 s2.heap.objs.size=none:=fun I8=>by
    have z:=I8.pin (s2.heap.objs.size,{cls:=.type "list",data:=.seq U.toArray k}) (bj _ (gU _ aC));exact⟨z.1,z.2.1⟩
   have hB:∀{H8:Hp} {s8:ak},Inv (cxC X Z (own++NN) fp s2 H2 P.objs.size) ([(s2.heap.objs.size,{cls:=.type "list",data:=.seq U.toArray k})]++tT fp s5.heap) hX H8 s8 ->
     tn (i+1) s8.heap/\∀b∈fp,H8 b=none:=fun {H8 s8} I8=>by
    refine{T.keep _ _ _ hf fun b hb o e=>(I8.pin (b,o) (bj _ (bj _ (oN hb e)))).1,fun b hb=>?_};obtain⟨o,e,_⟩:=T.obj _ _ hf b hb;exact (I8.pin (b,o) (bj _ (bj _ (oN hb e)))).2.1
   have hA:(cD own.length none++σ).length=hX.length:=by rw[I6.len,start.len]
   cases fe with
   |false=>
    have eH:N ys H7:=q7;obtain⟨m',lt,w'⟩:=hN _ _ eH;obtain⟨d1,d2⟩:=hE I7;obtain⟨p1,p2⟩:=hB I7;have J7:Inv (cxC X Z (own++NN) fp s2 H2 P.objs.size) [] hX H7 s7:=I7.pins_of (fun p hp=>absurd hp (by simp));exact{m',lt,i+1,ys,H7,U,k,J7.weak hA (Ao ge),p1,p2,d2,rv,d1,w'}
   |true=>
    refine thn (he fp s2 H2 P.objs.size _ s7 hX H7 _ I7 q7) fun v8 s8 z=>?_;obtain⟨y,H8,I8,r8,n8⟩:=z;obtain⟨m',lt,w'⟩:=hN _ _ n8;obtain⟨d1,d2⟩:=hE I8;obtain⟨p1,p2⟩:=hB I8;refine append_at (hsz:=by rw[aH,<- rv.length];exact jR hl) d1 fun h9 sb ey=>?_;have J8:Inv (cxC X Z (own++NN) fp s2 H2 P.objs.size) [] hX H8 s8:=I8.pins_of (fun p hp=>absurd hp (by simp));have J9:Inv (cxC X Z (own++NN) fp s2 H2 P.objs.size) [] hX H8 {s8 with heap:=h9}:=J8.turned (t':=s8.toks) (it:=s2.heap.objs.size) (fun b o hb e=>sb.extBut b o hb e) d2 hF (.inr (aD _)) (fun y c e=>aR (hG y c e)) (fun p hp=>absurd hp (by simp));refine{m',lt,i+1,ys++[y],H8,U++[v8],k+1,J9.weak hA (Ao ge),T.keep _ _ _ p1 (fun b hb o e=>sb.extBut b o (aR (hO b hb)) e),p2,d2,rv.append (.cons r8 .nil),?_,w'};show h9.get? _=_;rw[ey,List.push_toArray]
 exact codeAny_compStart_list (hz _ rfl) (T.self X.A 0 _ _ _ (T.keep _ _ _ gt (fun b _ o e=>old b o e)) (hz _ rfl))
theorem mP{M Y U:cN}{O:List cN}{Z:mh}{NN:List Str}{pos:Pos}{z:TI}{g:TG}{tc:TT}{te:TE}(own:List Str)(ok:iI X Z NN)(hc:X.calm=true)(hi:PI X Y U z)
  (hg:∀fp W V C,PG (cxC X Z (own++NN) fp W V C) Y g) (ht:∀fp W V C,PTs (cxC X Z (own++NN) fp W V C) O tc) (he:∀fp W V C,PE (cxC X Z (own++NN) fp W V C) M te)
  (hs:∀x,p0 U X.env x=pure x:=by intro _;rfl):PE X (.ListComp M [{Y,U,O,0}] Z pos) (uM own.length z g tc te):=by
 intro pins s σ H Q I h;rw[eval_ListComp];refine Ap (use:=none) own ok hc hi hg ht he hs I h fun s4 C D H' m hn J n1 n2 n3 n4 t q=>?_;exact{m,hn,fun h' sb=>{.ref D,H',J.turned (t':=s4.toks) (it:=C) (fun b o hb e=>sb.extBut b o hb e) n1 n2 (.inr n3) n4 t,rfl,q}}
theorem zd{O Y W:cN}{M:List cN}{Z:mh}{NN:List Str}{pos pos' t:Pos}{wi:TI}{g:TG}{tc:TT}{te:TE}{i:Nat}{x:Str}(own:List Str)(ok:iI X Z NN)(hc:X.calm=true)(hN:X.N.Nodup)(bW:X.N[i]?=some x)(hx:Loc X.env.scope x)(hi:PI X Y W wi)
  (hg:∀fp V U C,PG (cxC X Z (own++NN) fp V U C) Y g) (ht:∀fp V U C,PTs (cxC X Z (own++NN) fp V U C) M tc) (he:∀fp V U C,PE (cxC X Z (own++NN) fp V U C) O te)
  (hs:∀x,p0 W X.env x=pure x:=by intro _;rfl) (hf:X.fn x=true\/X.env.scope.names.lookup x=some .local:=by first|exact .inl rfl|exact .inr rfl|assumption)
  (bI:uD (.ListComp O [{Y,W,M,0}] Z pos) (some (.Name x pos')) t.line X.env=pure true:=by rfl):PS X (.Assign [.Name x pos'] (.ListComp O [{Y,W,M,0}] Z pos) t) (Je (uM own.length wi g tc te) (Cb i)):=by
 intro pins s σ H D I h;rw[exec_Assign_Name_used _ _ _ _ bI];refine ax (Ee (ax ?_));show aX _ X.A (do let _ <- comprehension (.ListComp O [{Y,W,M,0}] Z pos) Z X.env _ (newList []) false (fg W X.env) (some (yL (.Name x pos') X.env))) _ _ s;refine ax (eu (Ap (use:=some (yL (.Name x pos') X.env)) (Qv:=fun _ s'=>SP X pins D .next s') own ok hc hi hg ht he hs I h fun s4 C DD H' m hn J n1 n2 n3 n4 n5 q=>?_) (fun _ s' hq=>bK (bK hq)) fun _ _ e=>e);show aX _ X.A (yL (.Name x pos') X.env (.ref DD)) _ _ s4;refine OV (xV J hN bW hx (show RelV (.ref DD) (.ref DD) from rfl) (fun s' J' z=>?_) hf);obtain⟨a,sb,ha⟩:=z;have na:C≠a:=by
  rcases ha with ha|ha
  ·rw[ha];exact n2
  ·exact (n4 x a ha).symm
 refine{m,hn.at' fun o e=>sb.extBut C o na e,fun h' bH=>{_,H',J'.turned (t':=s'.toks) (it:=C) (fun b o hb e=>bH.extBut b o hb e) n1 n2 (.inr n3) n4 n5,q}}
end
section
variable{K:ae}{a:aa}{xs:List V}{n:Nat}{g:TG}{tc:TT}{te:TE}{σ:St}{H:Hp}{Q:VK}
theorem t8(Y:Nat->List V->Hp->Prop)(h0:Y 0 [] H)(hl:∀i ys H,i<=xs.length->Y i ys H->SqL K H a xs/\ys.length<aB)
  (hs:∀i x ys H,xs[i]?=some x->Y i ys H->g x (cD n none++σ) H fun Z H2=>Z.drop n=σ/\tc Z H2 fun b O=>if b=true then te Z O fun y J=>Y (i+1) (ys++[y]) J else Y (i+1) ys O)
  (hd:∀ys H,Y xs.length ys H->∀p,H p=none->Q (.ref p) (upd H p (.lst ys))) :
  ∃W:Nat->Nat->List V->Hp->Prop,(∃m,W 0 m [] H)/\∀i m ys H,W i m ys H->ys.length<aB/\(((Itl K a).stop i H/\∀p,H p=none->Q (.ref p) (upd H p (.lst ys))) \/
   ((Itl K a).go i H/\∃N:List V->Hp->Prop,(∀U H',N U H'->∃I,I<m/\W (i+1) I U H')/\∀x H',(Itl K a).yld i H x H'->g x (cD n none++σ) H' fun Z H2=>Z.drop n=σ/\tc Z H2 fun b O=>
    if b=true then te Z O fun y J=>N (ys++[y]) J else N ys O)):=by
 refine{fun i m ys H=>m=xs.length-i/\i<=xs.length/\Y i ys H,{xs.length,by simp,bU _,h0},?_};rintro i m ys H ⟨rfl,hi,p⟩;obtain⟨q,z⟩:=hl i ys H hi p;refine{z,?_}
 by_cases M:i<xs.length
 ·refine .inr {{xs,xs[i],q,by simp[M]},Y (i+1),fun U H' D=>{xs.length-(i+1),by omega,rfl,M,D},fun x H' y=>?_};obtain⟨e,y⟩:=y;subst e;exact hs i x ys _ (y xs q) p
 ·have e:i=xs.length:=by omega
  subst e;exact .inl {{xs,q,aD _},hd ys H p}
theorem FY(Y:Nat->List V->Hp->Prop)(h0:Y 0 [] H)(hl:∀i ys H,i<=xs.length->Y i ys H->SqT K H a xs/\ys.length<aB)
  (hs:∀i x ys H,xs[i]?=some x->Y i ys H->g x (cD n none++σ) H fun Z H2=>Z.drop n=σ/\tc Z H2 fun b O=>if b=true then te Z O fun y J=>Y (i+1) (ys++[y]) J else Y (i+1) ys O)
  (hd:∀ys H,Y xs.length ys H->∀p,H p=none->Q (.ref p) (upd H p (.lst ys))) :
  ∃W:Nat->Nat->List V->Hp->Prop,(∃m,W 0 m [] H)/\∀i m ys H,W i m ys H->ys.length<aB/\(((Itt K a).stop i H/\∀p,H p=none->Q (.ref p) (upd H p (.lst ys))) \/
   ((Itt K a).go i H/\∃N:List V->Hp->Prop,(∀U H',N U H'->∃I,I<m/\W (i+1) I U H')/\∀x H',(Itt K a).yld i H x H'->g x (cD n none++σ) H' fun Z H2=>Z.drop n=σ/\tc Z H2 fun b O=>
    if b=true then te Z O fun y J=>N (ys++[y]) J else N ys O)):=by
 refine{fun i m ys H=>m=xs.length-i/\i<=xs.length/\Y i ys H,{xs.length,by simp,bU _,h0},?_};rintro i m ys H ⟨rfl,hi,p⟩;obtain⟨q,z⟩:=hl i ys H hi p;refine{z,?_}
 by_cases M:i<xs.length
 ·refine .inr {{xs,xs[i],q,by simp[M]},Y (i+1),fun U H' D=>{xs.length-(i+1),by omega,rfl,M,D},fun x H' y=>?_};obtain⟨e,y⟩:=y;subst e;exact hs i x ys _ (y xs q) p
 ·have e:i=xs.length:=by omega
  subst e;exact .inl {{xs,q,aD _},hd ys H p}
end
end L2
namespace PySem
theorem ze:Nd (.type "list") "keys"=pure none:=by rw[typeLookup_type,builtinLookup_eq_fast];kernel_rfl
theorem Aq:entryFor table "dict.update.loop"=some iB.«dict.update.loop»:=entryFor_of_tree (by kernel_rfl)
section
variable{prog:aN}{w:bL}{A:bZ}{E:af->ak->Prop}{s:ak}
theorem JC{a:aa}{xs:Array af}{k:Nat}{sl:Array (Option af)}{Q:Option af->ak->Prop}(hx:s.heap.get? a=some {cls:=.type "list",dict:=none,data:=.seq xs k,slots:=sl})(V:A.handled=none)
  (h:∀h' tk,(∀b o,s.heap.get? b=some o->h'.get? b=some o)->Q none {s with heap:=h',toks:=tk}):aX (bf prog w) A (getAttr? (.ref a) "keys") Q E s:=by
 obtain⟨hp,g,d,tk,os⟩:=s;have W:∀Z,(⟨hp,g,d,Z,os⟩:ak).TypeIs (.ref a) "list":=fun _=>{_,hx,rfl};have f1:=sub_AttributeError;have U:=F.slot_list_getattribute.lookup;have I:=F.slot_list_getattribute.bind (.ref a);have M:=am_list_getattr_none;unfold getAttr? getAttrBy? getAttrBy;have go:∀(u:Tok) (tk:Nat) (Q:af->ak->Prop) (E:af->ak->Prop),(∀h' Z e,Heap.NewAttrErr hp h' e (.ref a) "keys"->E (.ref e) ⟨h',g,d,Z,os⟩)->aX (bf prog w) A (xu (Value.builtin "list.__getattribute__") [.ref a,.str "keys" u]) Q E ⟨hp,g,d,tk,os⟩:=fun u tk Q E k1=>
  oS F.slot_list_getattribute (W _) am_entry_list_getattribute (F.args_list_getattribute_2 _ _) (meets_getattribute_miss_list a xs k sl "keys" _ ze (by decide +kernel)) {hx,V,fun h' Z e Y=>k1 h' Z e Y}
 repeat (any_goals (first|assumption|exact W _|refine go _ _ _ _ (fun h' Z e Y=>?_)|wp_step))
 obtain⟨t',O,J⟩:=Y.there
 repeat (any_goals (first|assumption|wp_step))
 exact h _ _ Y.keeps
def BB{prog:aN}{w:bL}{K:Type}[DecidableEq K](knd:KeyKind prog w K)(h:cz)(p:K×af)(x:af):Prop:=
 ∃(a:aa) (Z:af) (o:Obj) (n:Nat),x=.ref a/\h.get? a=some o/\o.cls=.type "tuple"/\o.data=.seq #[Z,p.2] n/\knd.is p.1 Z=true
variable{K:Type}[DecidableEq K]{knd:KeyKind prog w K}
theorem FZ{a:aa}{o:Obj}{n:Nat}{k v:af}{Q:List af->ak->Prop}(ho:s.heap.get? a=some o)(hc:o.cls=.type "tuple")(hd:o.data=.seq #[k,v] n)(h:Q [k,v] s):aX (bf prog w) A (vx (.ref a)) Q E s:=by
 unfold vx;have Z:s.TypeIs (.ref a) "tuple":=⟨o,ho,hc⟩;refine ax (wpAny_typeOf Z ?_);rw[if_pos (by decide)];refine ax (wpAny_seqItems ho hd (bK ?_));exact h
theorem Cu{R:Nb->ak->Prop}{it l d:aa}{items:Array af}{Z:af}(hA:A.handled=none)(hl:l≠d)(hi:it≠d)(dz:it≠l):∀(ps:List (K×af)) (i:Nat) (kvs:List (K×af)) (s:ak) (t:Tok) (z:Int),
  s.heap.IsListIter it l i->s.heap.IsList l items->s.heap.DictOf knd d kvs->aP (fun p x=>BB knd s.heap p x/\x≠.ref d/\x≠.ref it) ps (items.toList.drop i)->kvs.length+ps.length<=aB ->
  (∀h' tk,h'.DictOf knd d (ps.foldl (fun m p=>wz m p.1 p.2) kvs)->(∀b o,b≠d->b≠it->s.heap.get? b=some o->h'.get? b=some o)->R (.ok (.ret Z)) {s with heap:=h',toks:=tk}) ->
  p4 (bf prog w) A (.builtin "dict.update.loop" {[.ref d,.ref it,.int z t,Z],[]}) R s
 | [],i,kvs,s,t,z,U,Y,hd,hp,hz,h=>by
  have H:items.toList.drop i=[]:=by
   have e:=hp.length;exact List.length_eq_zero_iff.mp e.symm
  have hx:items[i]?=none:=by
   have e:=List.drop_eq_nil_iff.mp H;simp only[fK]at e;exact Array.getElem?_eq_none e
  refine sj Aq ?_;unfold iB.«dict.update.loop»;dsimp only;refine ax (IR hA U Y hx fun h' eb=>?_);dsimp only;refine ax ?_;unfold Builtin.Dict.addKeywords;refine bK ?_;refine bK (h h' _ (hd.extBut eb hi.symm) fun b o _ hb e=>eb b o hb e)
 |p::ps,i,kvs,s,t,z,U,Y,hd,hp,hz,h=>by
  cases e0:items.toList.drop i with
  |nil=>
   rw[e0]at hp
   cases hp
  |cons x r=>
   rw[e0]at hp
   cases hp with
   |cons h1 h2=>
    obtain⟨⟨a,kv,o,n,rfl,ho,hc,da,hk⟩,nd,ni⟩:=h1;have hx:items[i]?=some (.ref a):=by
     have e:=congrArg (fun l=>l[0]?) e0;simpa using e
    have hr:items.toList.drop (i+1)=r:=by
     have e:=congrArg List.tail e0;simpa using e
    refine sj Aq ?_;unfold iB.«dict.update.loop»;dsimp only;refine ax (Fu U Y hx fun D O sb=>?_);dsimp only;refine ax (e7 (ax (wpAny_tryCatch ?_)));have cx:a≠it:=fun q=>ni (by rw[q]);have cr:a≠d:=fun q=>nd (by rw[q]);refine FZ (s:={s with heap:=D}) ((sb.2 a cx).trans ho) hc da ?_;dsimp only;refine e7 (wpAny_dictSet_pairs (s:={s with heap:=D}) hk (hd.extBut sb.extBut hi.symm) (fun M de dv=>?_) (by simp only[aT]at hz;omega));refine bK {Fl _ (by decide +kernel),?_};have keep:∀b ob,b≠d->b≠it->s.heap.get? b=some ob->M.get? b=some ob:=fun b ob V W e=>dv.extBut b ob V (sb.extBut b ob W e);refine Cu (items:=items) hA hl hi dz ps (i+1) (wz kvs p.1 p.2) {s with heap:=M,toks:=s.toks+1} _ _ ?_ ?_ de ?_ ?_ ?_
    ·obtain⟨oi,ei,ci,di⟩:=O;exact{oi,dv.extBut it oi hi ei,ci,di}
    ·obtain⟨ol,el,cl⟩:=Y;exact{ol,keep l ol hl dz.symm el,cl}
    ·rw[hr];clear e0 hr h hz hd U O Y
     induction h2 with
     |nil=>exact .nil
     |cons q1 q2 ih=>
      refine .cons ?_ ih;obtain⟨⟨a',cs,o',n',rfl,dc,dn,I,dj⟩,g,J⟩:=q1;exact{{a',cs,o',n',rfl,keep a' o' (fun q=>g (by rw[q])) (fun q=>J (by rw[q])) dc,dn,I,dj},g,J}
    ·have hs:(wz kvs p.1 p.2).length<=kvs.length+1:=by
      unfold wz
      split
      ·rw[ao];omega
      ·simp
     simp only[aT]at hz;omega
    ·intro h' tk dt k';exact h h' tk dt fun b ob V W e=>k' b ob V W (keep b ob V W e)
theorem JD{l:aa}{items:Array af}{k:Nat}{sl:Array (Option af)}{ps:List (K×af)}{Q:af->ak->Prop}(I:A.handled=none)(hx:s.heap.get? l=some {cls:=.type "list",dict:=none,data:=.seq items k,slots:=sl})
  (hp:aP (BB knd s.heap) ps items.toList) (H:ps.length<=aB)
  (h:∀h' tk,h'.DictOf knd s.heap.objs.size (ps.foldl (fun m p=>wz m p.1 p.2) [])->(∀b o,s.heap.get? b=some o->h'.get? b=some o)->Q (.ref s.heap.objs.size) {s with heap:=h',toks:=tk}) :
  aX (bf prog w) A (xu (.type "dict") [.ref l]) Q E s:=by
 refine callType_codes (Q₁:=fun obj J=>obj=.ref s.heap.objs.size/\J={s with heap:=s.heap.push {cls:=.type "dict",data:=.dict #[]}}) F.kt_called_dict (F.kt_typeCall_dict_1 _) F.entry_dict_init (kt_code_dict_new _ ⟨rfl,rfl⟩) ?_;rintro obj J ⟨rfl,rfl⟩;have Z:(s.heap.push {cls:=.type "dict",data:=.dict #[]}).DictOf knd s.heap.objs.size []:=A3 s.heap;have up:∀b o,s.heap.get? b=some o->(s.heap.push {cls:=.type "dict",data:=.dict #[]}).get? b=some o:=fun b o e=>aJ _ e;have W:=aQ hx;refine{Z.typeIs,F.args_dict_init_2 _ _,?_};unfold iB.«dict.__init__»;refine ax ?_;unfold Builtin.Dict.selfAndRest;refine ax (wpAny_notOrdered_dict Z.typeIs ?_);show aX _ _ (pure (s.heap.objs.size,[Value.ref l])) _ _ _;refine bK ?_;show aX _ _ (vc "dict.__init__" s.heap.objs.size (.ref l) [] .none) _ _ _;unfold vc;have t:({s with heap:=s.heap.push {cls:=.type "dict",data:=.dict #[]}}:ak).TypeIs (.ref l) "list":={_,up _ _ hx,rfl};refine ax (wpAny_typeOf t ?_);rw[if_pos (by decide)];refine ax (JC (s:={s with heap:=s.heap.push {cls:=.type "dict",data:=.dict #[]}}) (up _ _ hx) I fun h1 O k1=>?_);rw[if_pos (by rfl)];refine ax (BC (ax ?_));have V:h1.IsList l items:={_,k1 _ _ (up _ _ hx),rfl,k,rfl};refine OW (s:={s with heap:=h1,toks:=O}) V ?_;have Y:s.heap.objs.size<h1.objs.size:=by
  obtain⟨o,_,_,e,_⟩:=Z;exact aQ (k1 _ _ e)
 have U:∀b o,s.heap.get? b=some o->(h1.push {cls:=.type "list_iterator",data:=.fields #[.ref l,.int 0 0]}).get? b=some o:=fun b o e=>aJ _ (k1 _ _ (up _ _ e));refine bK {Fl _ (by decide +kernel),?_};refine Cu (A:=A.in1) (knd:=knd) (items:=items) I (l:=l) (aR W) (qe Y) (qe (qq W Y)) ps 0 [] _ _ _ ?_ ?_ ?_ ?_ ?_ ?_
 ·exact{_,cy _ rfl,rfl,rfl}
 ·exact V.push _
 ·obtain⟨o,es,ep,e,r⟩:=Z;exact{o,es,ep,aJ _ (k1 _ _ e),r}
 ·rw[yf];clear h H;generalize items.toList=xs at hp
  induction hp with
  |nil=>exact .nil
  |cons g q2 ih=>
   refine .cons ?_ ih;obtain⟨a,D,o,n,rfl,ho,hc,hd,hk⟩:=g;have M:=aQ ho;refine{{a,D,o,n,rfl,U _ _ ho,hc,hd,hk},fun q=>?_,fun q=>?_}
   ·injection q with q;exact aR M q
   ·injection q with q;exact aR (qq M Y) q
 ·simpa using H
 ·intro h' tk hd z;refine{rfl,h h' tk hd fun b o e=>z b o ?_ ?_ (U b o e)}
  ·exact aR (aQ e)
  ·exact aR (qq (aQ e) Y)
end
end PySem
namespace L2
open PySem PySem.Spec PyProof.Rows
section
variable{X:Cx}
theorem yg{n:Nat}(h:n<2^64):n.log2<9000:=by
 by_cases z:n=0
 ·subst z;decide
 ·exact qq ((Nat.log2_lt z).mpr h) (by decide)
def Lq(_ j:Int):Prop:=0<j/\j<2^64
theorem wF:OpR X (iE .FloorDiv) (rI Lq fun i j=>.int (i/j)):=opI fun i j _ _ _ _ _ hc q=>by
 have h1:(0:Int)<j:=hc.1;have h2:j<2^64:=hc.2;have Z:j.natAbs<2^64:=by omega
 exact Fz (by omega) (by rw[yN i (by omega)];exact q) (.inl (xM (yg Z)))
def CDivM(_ j:Int):Prop:=j≠0/\j.natAbs<2^64
theorem F0:OpR X (iE .FloorDiv) (rI CDivM fun i j=>.int (i.fdiv j)):=opI fun _ _ _ _ _ _ _ hc q=>Fz hc.1 q (.inl (xM (yg hc.2)))
theorem JE:OpR X (iE .Mult) (rI IntMulOk fun i j=>.int (i*j)):=opI fun _ _ _ _ _ _ _ hc q=>mul_int q hc
theorem kg:lF X (.builtin "isinstance") (fun xs H Q=>∃x n t b,xs=[x,.ty n]/\tX X.K H x t/\gG X.K t (.type n)=some b/\Q (.bl b) H):=by
 intro pins s σ H xs us Q I r h;obtain⟨x,n,t,b,rfl,ty,e,q⟩:=h;obtain⟨u,Y,rfl,Z,rt⟩:=vals2 r
 cases (show Y=Value.type n from rt);exact En I Z ty e fun tk=>{.bl b,H,I.tok _,rfl,q}
def vy(H:Hp):List (Key×V)->List V->Prop:=aP fun (p:Key×V) x=>∃a,x=V.ref a/\H a=some (.tup [kV p.1,p.2])
theorem F3{P:aN}{w:bL}{H:Hp}{h:cz}(ok:HOk P w H h):∀{ps:List (Key×V)} {vs:List V} {us:List af},vy H ps vs->cX vs us->∃qs:List (Key×af),KV ps qs/\aP (BB (eY P w) h) qs us:=by
 intro ps vs us r;unfold vy at r
 induction r generalizing us with
 |nil=>
  intro v
  cases v;exact{[],.nil,.nil}
 |@cons p x ps vs U J M=>
  intro v
  cases v with
  |cons r1 r2=>
   obtain⟨a,rfl,ha⟩:=U;obtain⟨qs,k1,k2⟩:=M r2
   cases r1;obtain⟨_,Y,O,o,ho,hc,n,hd⟩:=(show eE P w H h a (.tup [kV p.1,p.2]) from ok a _ ha);obtain⟨ku,W,rfl,rk,Z⟩:=vals2 O;exact{(p.1,W)::qs,.cons ⟨rfl,Z⟩ k1,.cons {a,ku,o,n,rfl,ho,hc,hd,wA rk} k2}
theorem JF{ps:List (Key×V)}{qs:List (Key×af)}(r:KV ps qs):∀{m:List (Key×V)} {n:List (Key×af)},KV m n->KV (ps.foldl (fun m p=>ja m p.1 p.2) m) (qs.foldl (fun m p=>wz m p.1 p.2) n):=by
 unfold KV at r
 induction r with
 |nil=>
  intro m n k;exact k
 |@cons p q ps qs h t Z=>
  intro m n k;obtain⟨h1,h2⟩:=h;rw[xq,xq,<- h1];exact Z (k.put p.1 h2)
theorem Ar(ps:List (Key×V)):∀m:List (Key×V),(ps.foldl (fun m p=>ja m p.1 p.2) m).length<=m.length+ps.length:=by
 induction ps with
 |nil=>
  intro m;exact aD _
 |cons p ps Z=>
  intro m;rw[xq,aT];have h1:=Z (ja m p.1 p.2);have h2:=mO m p.1 p.2;omega
theorem BD(hc:X.calm=true):lF X (.type "dict") (fun xs H Q=>∃p vs ps,xs=[V.ref p]/\H p=some (.lst vs)/\vy H ps vs/\ps.length<=aB/\∀d,H d=none->Q (.ref d) (upd H d (.dK (ps.foldl (fun m p=>ja m p.1 p.2) [])))):=by
 intro pins s σ H xs us Q I r h;obtain⟨p,vs,ps,rfl,hp,Y,U,q⟩:=h;obtain⟨u,rfl,ru⟩:=vals1 r
 cases ru;obtain⟨_,O,n,W,ho⟩:=(show eE X.prog X.w H s.heap p (.lst vs) from I.hok p _ hp);obtain⟨qs,k1,k2⟩:=F3 I.hok Y W;refine JD (knd:=eY X.prog X.w) (I.ok.hd hc) ho k2 (by rw[<- k1.length];exact U) fun h' tk hd kk=>?_;have Z:=JF k1 (m:=[]) (n:=[]) .nil;have hl:=Ar ps [];refine{.ref s.heap.objs.size,_,I.laid (a:=s.heap.objs.size) (o:=.dK (ps.foldl (fun m p=>ja m p.1 p.2) [])) (t':=tk) kk (aD _) ?_,rfl,q _ (I.hok.fresh (aD _))};exact yW (by simp only[cw]at hl;omega) (beq_eq_false_iff_ne.mpr (gj (aR I.big))) Z hd
end
end L2
namespace Att
open PySem PySem.W PySem.Calls PyProof.Rows
theorem weight_mem:∀(xs:List WData) (x:WData),x∈xs->lO x<=wG xs
 | [],_,h=>by cases h
 |y::r,x,h=>by
  unfold wG
  rcases ar.mp h with e|e
  ·subst e;omega
  ·have:=weight_mem r x e;omega
theorem bits_of_lay{ns:List Int}(h:WData.layableAll [WData.list (ns.map WData.int)]=true):∀n∈ns,fc n<=1048576:=fun n Z=>by
 have h1:(WData.list (ns.map WData.int)).layable=true:=(layW_cons h).1;unfold WData.layable at h1;have h2:lO (WData.list (ns.map WData.int))<=2^20:=of_decide_eq_true (rL.mp h1).2;have W:=weight_mem (ns.map WData.int) (WData.int n) (cB.mpr ⟨n,Z,rfl⟩);have Y:lO (WData.list (ns.map WData.int))=wG (ns.map WData.int):=by
  rw[lO]
 have V:lO (WData.int n)=fc n:=by
  rw[lO];rfl
 have e:(2:Nat)^20=1048576:=by decide
 omega
theorem attach_callB{l:OpenLaw}{n:Nat}{q:aN}{W:List Str}{XP:(Str->Option af)->cz->Prop}{YP:bL->cz->Prop}{d:DefRec}
  (hn:l.most=some n) (H:d.params.defaults=[])
  (xu:∀(w:bL) (s₀ Z:ak) (mg z:Str->Option af) (I:aa) (a:aa) (vs:List af) (ns:List Int),
   Ground q W [] XP w s₀ mg z Z.heap->YP w Z.heap->mg d.name=some (.ref I) ->
   Z.heap.get? a=some {cls:=.type "list",data:=.seq vs.toArray}->dN vs ns->ns.length<=n->(∀x∈ns,fc x<=1048576)->Z.gens=#[] ->
   p4 (bf l.prog w) xI (.call (.ref I) {[.ref a],[]}) (fun r s'=>r=.ok (.ret (.bool true))/\OldK Z.heap s'.heap/\s'.os=Z.os/\pY s'.gens) Z) :
  WalkO q W XP YP l.row.toRowW d [] (fun f vs=>Ez f vs):=by
 intro w s₀ Z mg z G Y I o pm cd ce dV kV ho hd ca hD D hg args g as O M cp t ci;obtain rfl:dV=.none:=Dflts.none hD H;obtain rfl:kV=.none:=Dflts.noKw hD;obtain⟨a,vs,ns,rfl,rfl,J,V,U⟩:=script_of hn O t;refine enter_call (kK (xu w s₀ Z mg z I a vs ns G Y D J V U (bits_of_lay M) hg) fun r s' hq=>?_);obtain⟨rfl,h2,h3,h4⟩:=hq;exact{.inl {.bool true,.bool true,[],rfl,fun _=>rfl,.bool true,post_true l _,fun _=>{List.Pairwise.nil,fun _ hm=>(nomatch hm)}},h2,h3,h4}
end Att
namespace L2
open PySem PySem.Spec PyProof.Rows
theorem walk_ofB{l:vd}{n k:Nat}{q:aN}{O:List Str}{XP:(Str->Option af)->cz->Prop}{YP:bL->cz->Prop}{d:DefRec}{K:Params->ae}{CX:bL->CXT}{sp:bL->Sp}{x:Str}
  (hn:l.most=some n) (bI:n<=aB) (D:d.params.defaults=[]) (hr:cQ k xI)
  (hY:∀(w:bL) (h:cz),YP w h->(K w.params).In h)
  (F:∀(w:bL) (mg:Str->Option af) (I:aa) (h:cz),(K w.params).In h->h.Ns bJ mg->mg d.name=some (.ref I) ->
   ∃fd:bR,(∀(s:ak) (u:af),uH s fd {[u],[]} [(x,u)]) /\
    ∀base:cz,(K w.params).In base->base.Ns bJ mg->bA l.prog w (K w.params) mg base (CX w) k I fd [x] (sp w))
  (bH:∀(w:bL) (H:Hp) (a:aa) (ns:List Int),ns.length<=n->(∀x∈ns,fc x<=1048576)->SqL (K w.params) H a (ns.map V.int)->sp w [.ref a] H (fun v _=>v=.bl true) fun _ _ _=>False)
  (z:∀(w:bL) (H:Hp) (s:ak) (e:af) (s':ak),CX w [] H s (fun _ _ _=>False) e s'->False) :
  IW q O XP YP l.row.toRowW d [] (fun f vs=>Ez f vs):=by
 refine Att.attach_callB hn D fun w s₀ M mg mb I a vs ns G Y t J W Z U hg=>?_;have KX:=hY w _ Y;obtain⟨fd,hb,hF⟩:=F w mg I _ KX G.T.g t;exact FT KX G.T.g G.T.b G.T.builtins G.T.nolimit hg J W (dA Z bI) hr hF hb (fun H hO hS=>bH w H a ns Z U hS) fun H e s'=>z w H M e s'
end L2
namespace PySem
open SeqAt MeetsSeq MeetsSeq2 MeetsSeq3 SeqRoads2
open AutoSeq1 (wpAny_loadPart')
def ng(prog:aN)(w:bL)(A:bZ)(s:ak)(y x:af):Prop:=
 ∀(E:af->ak->Prop) (Q:Bool->ak->Prop),Q true s->aX (bf prog w) A (eqBool y x) Q E s
def RcIn(prog:aN)(w:bL)(A:bZ)(s:ak)(y x:af):Prop:=
 ∀(E:af->ak->Prop) (Q:af->ak->Prop),Q (.bool true) s->aX (bf prog w) A (p5 .Eq y x) Q E s
section
variable{prog:aN}{w:bL}{A:bZ}{s:ak}
theorem ng.of_at{y x:af}(h:EqAt A s y x true):ng prog w A s y x:=fun E Q q=>h prog w E Q q
theorem ng.self(v:af):ng prog w A s v v:=ng.of_at (EqAt.same v)
theorem ng.refs{l b:aa}(h:RcIn prog w A s (.ref l) (.ref b)):ng prog w A s (.ref l) (.ref b):=by
 by_cases e:l=b
 ·rw[e];exact ng.self _
 ·intro E Q q;unfold eqBool;refine e7 (wpAny_ite_split (fun z=>?_) (fun _=>?_))
  ·exact absurd (by have Z:=eq_of_beq z;injection Z) e
  ·exact ax (h E _ (kJ q))
theorem JG(l b:aa)(xs ys:Array af)(n m:Nat)(dd M:Option aa)(sl sm:Array (Option af))(hsz:xs.size=ys.size):∀k i:Nat,xs.size-i=k ->
  MeetsIn prog w (iB.«list.__eq__.loop» {[.ref l,.ref b,tS i,tS 2],[]}) (fun A R s=>
   s.heap.get? l=some {cls:=.type "list",dict:=dd,data:=.seq xs n,slots:=sl}/\s.heap.get? b=some {cls:=.type "list",dict:=M,data:=.seq ys m,slots:=sm} /\
   (∀j (h1:j<xs.size) (h2:j<ys.size),ng prog w A.in1 s xs[j] ys[j])/\R (.ok (.ret (.bool true))) s):=by
 intro k
 induction k with
 |zero=>
  intro i hk A R s q;obtain⟨hp,g,d,tk,os⟩:=s;obtain⟨Y,Z,W,V⟩:=q;have a1:xs[((i:Nat):Int).toNat]?=none:=by simp;omega
  have a2:ys[((i:Nat):Int).toNat]?=none:=by simp;omega
  wp_walk using dy Y,dy Z
  rw[a1,a2]
  wp_walk using dy Y,dy Z
  show R (.ok (.ret (.bool (xs.size==ys.size)))) _;rw[hsz,beq_self_eq_true];exact V
 |succ k J=>
  intro i hk A R s q;obtain⟨hp,g,d,tk,os⟩:=s;obtain⟨Y,Z,W,V⟩:=q;have U:i<xs.size:=by omega
  have O:i<ys.size:=by omega
  have a1:xs[((i:Nat):Int).toNat]?=some xs[i]:=by simp[U]
  have a2:ys[((i:Nat):Int).toNat]?=some ys[i]:=by simp[O]
  have e1:((i:Int)+1)=((i+1:Nat):Int):=by push_cast;rfl
  wp_walk using dy Y,dy Z
  rw[a1,a2];refine ax (W i U O _ _ ?_)
  wp_walk
  rw[e1];refine{plainId_quiet plain_eq_loop _,sj entry_eq_loop ?_};rw[A4 plain_eq_loop _];exact J (i+1) (by omega) A R _ ⟨Y,Z,W,V⟩
theorem JH(l b:aa)(xs ys:Array af)(n m:Nat)(dd W:Option aa)(sl sm:Array (Option af))(hsz:xs.size=ys.size) :
  MeetsIn prog w (iB.«list.__eq__» {[.ref l,.ref b],[]}) (fun A R s=>
   s.heap.get? l=some {cls:=.type "list",dict:=dd,data:=.seq xs n,slots:=sl}/\s.heap.get? b=some {cls:=.type "list",dict:=W,data:=.seq ys m,slots:=sm} /\
   (∀j (h1:j<xs.size) (h2:j<ys.size),ng prog w A.in1 s xs[j] ys[j])/\R (.ok (.ret (.bool true))) s):=by
 intro A R s q;obtain⟨hp,g,d,tk,os⟩:=s;obtain⟨Y,Z,V,U⟩:=q;have f1:=AutoSeq1.sub_list_list;have O:¬(xs.size != ys.size)=true:=by simp[hsz]
 wp_walk using dy Y,dy Z
 refine{plainId_quiet plain_eq_loop _,sj entry_eq_loop ?_};rw[A4 plain_eq_loop _];exact JG l b xs ys n m dd W sl sm hsz _ 0 rfl A R _ ⟨Y,Z,V,U⟩
theorem RcIn.lists{l b:aa}{xs ys:Array af}(hl:s.heap.IsList l xs)(hb:s.heap.IsList b ys)(hsz:xs.size=ys.size)(hu:A.units<eK)
  (W:∀j (h1:j<xs.size) (h2:j<ys.size),ng prog w A.in1 s xs[j] ys[j]):RcIn prog w A s (.ref l) (.ref b):=fun E Q q=>by
 obtain⟨⟨c1,dd,t1,sl⟩,Z,rfl,n,rfl⟩:=id hl;obtain⟨⟨O,V,U,sm⟩,Y,rfl,m,rfl⟩:=id hb;refine A5 (op:=.Eq) {_,Z,rfl} {_,Y,rfl} F.slot_list_eq (F4 F.slot_list_eq {_,Z,rfl} F.entry_list_eq (F.args_list_eq_2 _ _) (JH l b xs ys n m dd V sl sm hsz) {Z,Y,W,?_}) hu;exact{fun z=>(nomatch z),q}
variable{K:Type}[DecidableEq K]{knd:KeyKind prog w K}
theorem pairs_at{es:List DictEntry}{kvs:List (K×af)}(h:Pairs knd es kvs):∀{i:Nat} {e:DictEntry},es[i]?=some e->∃Z,kvs[i]?=some Z/\knd.is Z.1 e.key=true/\e.val=Z.2:=by
 induction h with
 |nil=>
  intro i e q;simp at q
 |cons a b _ Y=>
  intro i e q
  cases i with
  |zero=>
   simp at q;subst q;exact{_,rfl,a,b}
  |succ i=>
   obtain⟨Z,z⟩:=Y (i:=i) (by simpa using q);exact{Z,by simpa using z.1,z.2}
theorem Gf{nm:String}{d b:aa}{kvs kws:List (K×af)}{Q:Bool->ak->Prop}{E:af->ak->Prop}(hd:(d==ff)=false)(hb:(b==ff)=false)(I:s.heap.DictOf knd d kvs)(U:s.heap.DictOf knd b kws)
  (hl:kvs.length=kws.length) (H:∀Y∈kvs,∃W,p6 kws Y.1=some W/\ng prog w A s Y.2 W) (q:Q true s):aX (bf prog w) A (vz nm d b) Q E s:=by
 obtain⟨o1,es,ep,h1,x1,t1,k1,O,n1⟩:=id I;obtain⟨o2,fs,fp,h2,x2,V,k2,p2,n2⟩:=id U;have g:es.size=kvs.length:=by rw[<- O.length,fK]
 have z2:fs.size=kws.length:=by rw[<- p2.length,fK]
 unfold vz;unfold Builtin.Dict.showsAll;rw[if_neg (by rw[hd];exact aW),if_neg (by rw[hb];exact aW)];refine ax (bK (ax (bK ?_)));refine ax (p7 h1 t1 (ax (p7 h2 V ?_)));rw[if_neg (by rw[g,z2,hl];simp)];refine ax (wpAny_dictEpoch h1 t1 (ax ?_));rw[Lr];simp only[Ls,Nat.sub_zero,Gh,Nat.div_one];refine lL _ (fun rest r s'=>s'=s/\r.1=none/\∃i,rest=List.range' i (es.size-i)/\i<=es.size) _ ?_ ?_ _ _ {rfl,rfl,0,by simp,bU _}
 ·rintro x rest ⟨r1,r2⟩ s' ⟨rfl,e1,i,hr,hi⟩;have lt:i<es.size:=by
   rcases ve i es.size with z|z
   ·exact z
   ·rw[Nat.sub_eq_zero_of_le z]at hr;simp at hr
  obtain⟨rfl,Z⟩:x=i/\rest=List.range' (i+1) (es.size-(i+1)):=by
   rw[show es.size-i=(es.size-(i+1))+1 by omega,List.range'_succ]at hr;injection hr with a1 a2;exact⟨a1,a2⟩
  obtain⟨Y,y1,M,J⟩:=pairs_at O (i:=x) (e:=es[x]) (by simp[lt]);obtain⟨kk,y4,y5⟩:=k1 es[x] (Array.getElem_mem lt);have y6:kk=Y.1:=knd.inj _ _ _ y4 M;subst y6;obtain⟨W,g1,g2⟩:=H Y (cq y1);obtain⟨o3,fs',t,a1,_,a2,a3,hf⟩:=U.mapOf;rw[h2]at a1
  cases a1;rw[V]at a2
  cases a2;rw[<- hf Y.1,findBy_of_findIdx?]at g1;refine ax (p7 h1 t1 ?_);rw[Array.getElem?_eq_getElem lt];dsimp only;refine ax (e7 (ax ?_));rw[y5];refine wpAny_dictFind_of M h2 V k2 ?_
  cases hj:fs.findIdx? fun e=>knd.is Y.1 e.key with
  |none=>
   rw[hj]at g1
   cases g1
  |some j=>
   rw[hj]at g1;dsimp only at g1 |-;refine ax (p7 h2 V ?_)
   cases hx:fs[j]? with
   |none=>
    simp[hx]at g1
   |some fe=>
    have D:fe.val=W:=by simpa[hx] using g1
    dsimp only;refine e7 ?_;rw[J,D];refine g2 _ _ ?_;rw[if_neg (by decide)];refine ax (wpAny_dictEpoch h1 t1 ?_);rw[if_neg (by simp)];exact bK {rfl,rfl,x+1,Z,lt}
 ·rintro⟨r1,r2⟩ s' ⟨rfl,e1,_⟩;have e1:r1=none:=e1;subst e1;exact bK q
theorem EA(d b:aa)(hd:(d==ff)=false)(hb:(b==ff)=false) :
  MeetsIn prog w (iB.«dict.__eq__» {[.ref d,.ref b],[]}) (fun A R s=>∃kvs kws,s.heap.DictOf knd d kvs/\s.heap.DictOf knd b kws/\kvs.length=kws.length /\
   (∀Y∈kvs,∃W,p6 kws Y.1=some W/\ng prog w A.in1 s Y.2 W)/\R (.ok (.ret (.bool true))) s):=
 .of_wp fun A R s h=>by
  obtain⟨kvs,kws,V,Z,hl,U,q⟩:=h;unfold iB.«dict.__eq__»;show aX _ _ (t9 "__eq__" {[.ref d,.ref b],[]} >>= _) _ _ s;refine ax ?_;unfold t9;unfold Builtin.Dict.notOrdered;rw[if_neg (by decide)];refine ax (bK ?_);show aX _ _ (pure (Value.ref d,Value.ref b)) _ _ s;refine bK ?_;dsimp only;refine ax (wpAny_isInstance Z.typeIs isSubtype_dict_dict ?_);rw[if_neg (by decide)];refine ax (bK (ax (bK (ax (Gf hd hb V Z hl U ?_)))));exact bK {_,rfl,q}
theorem RcIn.dicts{d b:aa}{kvs kws:List (K×af)}(hd:(d==ff)=false)(hb:(b==ff)=false)(Z:s.heap.DictOf knd d kvs)(Y:s.heap.DictOf knd b kws)(hl:kvs.length=kws.length)(hu:A.units<eK)
  (U:∀W∈kvs,∃V,p6 kws W.1=some V/\ng prog w A.in1 s W.2 V):RcIn prog w A s (.ref d) (.ref b):=fun E Q q=>
 A5 (op:=.Eq) Z.typeIs Y.typeIs F.slot_dict_eq (F4 F.slot_dict_eq Z.typeIs F.entry_dict_eq (F.args_dict_eq_2 _ _) (EA (knd:=knd) d b hd hb) {kvs,kws,Z,Y,hl,U,{fun z=>(nomatch z),q}}) hu
end
end PySem
namespace L2
open PySem PySem.Spec PyProof.Rows PySem.SeqAt
def sc0:V->Prop
 |.int _=>True
 |.str _=>True
 |.bl _=>True
 |.non=>True
 |_=>False
def TEq(H:Hp):Nat->V->V->Prop
 |0,x,y=>sc0 x/\x=y
 |n+1,x,y=>(sc0 x/\x=y)\/(∃p q xs ys,x=.ref p/\y=.ref q/\H p=some (.lst xs)/\H q=some (.lst ys)/\aP (TEq H n) xs ys) \/
   ∃p q xs ys,x=.ref p/\y=.ref q/\H p=some (.tup xs)/\H q=some (.tup ys)/\aP (TEq H n) xs ys
def DEq(H:Hp):Nat->V->V->Prop
 |0,x,y=>∃n,n<=20/\TEq H n x y
 |n+1,x,y=>(∃n,n<=20/\TEq H n x y)\/(∃p q xs ys,x=.ref p/\y=.ref q/\H p=some (.lst xs)/\H q=some (.lst ys)/\aP (DEq H n) xs ys) \/
   ∃p q kvs kws,x=.ref p/\y=.ref q/\H p=some (.dK kvs)/\H q=some (.dK kws)/\aP (fun (a b:Key×V)=>a.1=b.1/\DEq H n a.2 b.2) kvs kws
section
variable{P:aN}{w:bL}{H:Hp}{s:ak}
theorem nZ{R:V->V->Prop}:∀{xs ys:List V} {us vs:List af},aP R xs ys->cX xs us->cX ys vs->us.length=vs.length/\∀j (h1:j<us.length) (h2:j<vs.length),∃x y,R x y/\RelV x us[j]/\RelV y vs[j]:=by
 intro xs ys us vs p
 induction p generalizing us vs with
 |nil=>
  intro a b
  cases a
  cases b;exact{rfl,fun j h1=>absurd h1 (gW _)}
 |cons r rs Z=>
  intro a b
  cases a with
  |cons a Y=>
  cases b with
  |cons b bs=>
  obtain⟨e,z⟩:=Z Y bs;refine{by rw[aT,aT,e],fun j h1 h2=>?_}
  cases j with
  |zero=>exact{_,_,r,a,b}
  |succ j=>exact z j (qy h1) (qy h2)
theorem Cv{A:bZ}{x:V}{u v:af}(h:sc0 x)(ru:RelV x u)(Z:RelV x v):EqAt A s u v true:=by
 cases x with
 |non=>cases ru;cases Z;exact EqAt.same _
 |bl b=>cases ru;cases Z;exact EqAt.same _
 |int i=>
  obtain⟨t,rfl⟩:=ru;obtain⟨t',rfl⟩:=Z;have z:=EqAt.int_int (A:=A) (s:=s) i t i t';rw[beq_self_eq_true]at z;exact z
 |str i=>
  obtain⟨t,rfl⟩:=ru;obtain⟨t',rfl⟩:=Z;have z:=EqAt.str_str (A:=A) (s:=s) i t i t';rw[beq_self_eq_true]at z;exact z
 |byt b=>exact h.elim
 |flt b=>exact h.elim
 |ref a=>exact h.elim
 |ty a=>exact h.elim
theorem iD(ok:HOk P w H s.heap){p:aa}{xs:List V}(h:H p=some (.lst xs)):∃us:List af,cX xs us/\s.heap.IsList p us.toArray:=by
 obtain⟨_,us,n,r,e⟩:=(show eE P w H s.heap p (.lst xs) from ok p _ h);exact{us,r,_,e,rfl,n,rfl}
theorem iO(ok:HOk P w H s.heap){p:aa}{xs:List V}(h:H p=some (.tup xs)):∃us:List af,cX xs us/\s.heap.IsTuple p us.toArray:=by
 obtain⟨_,us,r,o,e,c,n,d⟩:=(show eE P w H s.heap p (.tup xs) from ok p _ h);exact⟨us,r,o,e,c,n,d⟩
theorem sR(n:Nat):((gx n).all fun _=>true)=true:=by simp
theorem As(ok:HOk P w H s.heap){R:V->V->Prop}{A:bZ}{p q:aa}{xs ys:List V}(hu:A.units<eK)(h1:H p=some (.lst xs))(h2:H q=some (.lst ys))(r:aP R xs ys)
  (W:∀x y u v,R x y->RelV x u->RelV y v->EqAt A.in1 s u v true):RcAt A s (.ref p) (.ref q) true:=by
 obtain⟨us,r1,i1⟩:=iD ok h1;obtain⟨vs,r2,i2⟩:=iD ok h2;obtain⟨e,z⟩:=nZ r r1 r2;have k:=RcAt.lists (e:=fun _=>true) i1 i2 (by simpa using e) hu (fun j a b=>by
  obtain⟨x,y,U,Z,Y⟩:=z j (by simpa using a) (by simpa using b);simpa using W _ _ _ _ U Z Y)
 rw[sR]at k;exact k
theorem Cw(ok:HOk P w H s.heap){R:V->V->Prop}{A:bZ}{p q:aa}{xs ys:List V}(hu:A.units<eK)(h1:H p=some (.tup xs))(h2:H q=some (.tup ys))(r:aP R xs ys)
  (W:∀x y u v,R x y->RelV x u->RelV y v->EqAt A.in1 s u v true):RcAt A s (.ref p) (.ref q) true:=by
 obtain⟨us,r1,i1⟩:=iO ok h1;obtain⟨vs,r2,i2⟩:=iO ok h2;obtain⟨e,z⟩:=nZ r r1 r2;have k:=RcAt.tuples (e:=fun _=>true) i1 i2 hu (fun j a b=>by
  obtain⟨x,y,U,Z,Y⟩:=z j (by simpa using a) (by simpa using b);simpa using W _ _ _ _ U Z Y)
 rw[sR,Nr,aH,aH,e,beq_self_eq_true]at k;exact k
theorem EqAt.of_rc{A:bZ}{l b:aa}(h:RcAt A s (.ref l) (.ref b) true):EqAt A s (.ref l) (.ref b) true:=by
 by_cases e:l=b
 ·rw[e];exact EqAt.same _
 ·exact EqAt.of_refs e h
theorem qz(ok:HOk P w H s.heap):∀{n:Nat} {A:bZ} {x y:V} {u v:af},A.units+n<eK->TEq H n x y->RelV x u->RelV y v->EqAt A s u v true
 |0,A,x,y,u,v,hu,h,ru,Z=>by
  obtain⟨h1,rfl⟩:=h;exact Cv h1 ru Z
 |n+1,A,x,y,u,v,hu,h,ru,Z=>by
  have Y:A.in1.units+n<eK:=by
   show A.units+1+n<eK;omega
  rcases h with⟨h1,rfl⟩|⟨p,q,xs,ys,rfl,rfl,h1,h2,r⟩|⟨p,q,xs,ys,rfl,rfl,h1,h2,r⟩
  ·exact Cv h1 ru Z
  ·cases ru
   cases Z;exact EqAt.of_rc (As ok (by omega) h1 h2 r fun _ _ _ _ z a b=>qz ok Y z a b)
  ·cases ru
   cases Z;exact EqAt.of_rc (Cw ok (by omega) h1 h2 r fun _ _ _ _ z a b=>qz ok Y z a b)
theorem wH(ok:HOk P w H s.heap){R:V->V->Prop}{A:bZ}{p q:aa}{xs ys:List V}(hu:A.units<eK)(h1:H p=some (.lst xs))(h2:H q=some (.lst ys))(r:aP R xs ys)
  (W:∀x y u v,R x y->RelV x u->RelV y v->ng P w A.in1 s u v):RcIn P w A s (.ref p) (.ref q):=by
 obtain⟨us,r1,i1⟩:=iD ok h1;obtain⟨vs,r2,i2⟩:=iD ok h2;obtain⟨e,z⟩:=nZ r r1 r2;exact RcIn.lists i1 i2 (by simpa using e) hu (fun j a b=>by
  obtain⟨x,y,U,Z,Y⟩:=z j (by simpa using a) (by simpa using b);simpa using W _ _ _ _ U Z Y)
theorem JI{κ:Type}{R:κ×V->κ×V->Prop}:∀{kvs kws:List (κ×V)} {us vs:List (κ×af)},aP R kvs kws->KV kvs us->KV kws vs->us.length=vs.length/\∀(i:Nat) (q:κ×af),us[i]?=some q->∃Z a b,vs[i]?=some Z/\R a b/\a.1=q.1/\b.1=Z.1/\RelV a.2 q.2/\RelV b.2 Z.2:=by
 intro kvs kws us vs p
 induction p generalizing us vs with
 |nil=>
  intro a b
  cases a
  cases b;exact{rfl,fun i q h=>by simp at h}
 |cons r rs Y=>
  intro a b
  cases a with
  |cons a W=>
  cases b with
  |cons b bs=>
  obtain⟨e,z⟩:=Y W bs;refine{by rw[aT,aT,e],fun i q h=>?_}
  cases i with
  |zero=>
   simp at h;subst h;exact{_,_,_,rfl,r,a.1,b.1,a.2,b.2}
  |succ i=>
   obtain⟨Z,x,y,h1,h2⟩:=z i q (by simpa using h);exact{Z,x,y,by simpa using h1,h2}
theorem wI(ok:HOk P w H s.heap){R:V->V->Prop}{A:bZ}{p q:aa}{kvs kws:List (Key×V)}(hu:A.units<eK)(h1:H p=some (.dK kvs))(h2:H q=some (.dK kws))(r:aP (fun (a b:Key×V)=>a.1=b.1/\R a.2 b.2) kvs kws)
  (t:∀x y u v,R x y->RelV x u->RelV y v->ng P w A.in1 s u v):RcIn P w A s (.ref p) (.ref q):=by
 obtain⟨_,n1,us,k1,D⟩:=(show eE P w H s.heap p (.dK kvs) from ok p _ h1);obtain⟨_,n2,vs,k2,Y⟩:=(show eE P w H s.heap q (.dK kws) from ok q _ h2);obtain⟨e,z⟩:=JI r k1 k2;refine RcIn.dicts n1 n2 D Y e hu fun W Z=>?_;obtain⟨i,hi⟩:=dH Z;obtain⟨U,a,b,g1,⟨g2,g3⟩,O,I,M,g⟩:=z i W hi;obtain⟨_,_,_,_,_,_,_,_,nd⟩:=id Y;have J:vs[i]?=some (W.1,U.2):=by
  rw[g1,<- O,g2,I]
 exact{U.2,valueAt_of_get nd J,t _ _ _ _ g3 M g}
theorem zf(ok:HOk P w H s.heap):∀{n:Nat} {A:bZ} {x y:V} {u v:af},A.units+n+20<eK->DEq H n x y->RelV x u->RelV y v->ng P w A s u v
 |0,A,x,y,u,v,hu,h,ru,Z=>by
  obtain⟨m,h0,h1⟩:=h;exact ng.of_at (qz ok (by omega) h1 ru Z)
 |n+1,A,x,y,u,v,hu,h,ru,Z=>by
  have Y:A.in1.units+n+20<eK:=by
   show A.units+1+n+20<eK;omega
  rcases h with⟨m,h0,h1⟩|⟨p,q,xs,ys,rfl,rfl,h1,h2,r⟩|⟨p,q,kvs,kws,rfl,rfl,h1,h2,r⟩
  ·exact ng.of_at (qz ok (by omega) h1 ru Z)
  ·cases ru
   cases Z;exact ng.refs (wH ok (by omega) h1 h2 r fun _ _ _ _ z a b=>zf ok Y z a b)
  ·cases ru
   cases Z;exact ng.refs (wI ok (by omega) h1 h2 r fun _ _ _ _ z a b=>zf ok Y z a b)
end
section
variable{X:Cx}
theorem Nt(hu:X.A.units+50<eK):OpR X (cU .Eq) (fun x y H Q=>∃n p q,n<=20/\x=.ref p/\y=.ref q/\DEq H n x y/\Q (.bl true) H):=by
 intro pins s σ H x y v u Q I rx ry h;obtain⟨n,p,q,hn,rfl,rfl,d,k⟩:=h
 cases rx
 cases ry;have fin:EP X pins σ Q (.bool true) s:={.bl true,H,I,rfl,k};have Z:X.A.units<eK:=by omega
 have U:RcIn X.prog X.w X.A s (.ref p) (.ref q):=by
  have V:∀m,m<=20->X.A.in1.units+m<eK:=fun m hm=>by
   show X.A.units+1+m<eK;omega
  have g:∀m,m<=20->TEq H m (.ref p) (.ref q)->RcIn X.prog X.w X.A s (.ref p) (.ref q):=fun m hm t=>by
   cases m with
   |zero=>exact t.1.elim
   |succ m=>
    rcases t with⟨h1,_⟩|⟨O,J,xs,ys,e1,W,h1,h2,r⟩|⟨O,J,xs,ys,e1,W,h1,h2,r⟩
    ·exact h1.elim
    ·cases e1
     cases W;intro E D M;exact As I.hok Z h1 h2 r (fun _ _ _ _ z a b=>qz I.hok (V m (by omega)) z a b) X.prog X.w E D M
    ·cases e1
     cases W;intro E D M;exact Cw I.hok Z h1 h2 r (fun _ _ _ _ z a b=>qz I.hok (V m (by omega)) z a b) X.prog X.w E D M
  cases n with
  |zero=>
   obtain⟨m,hm,t⟩:=d;exact g m hm t
  |succ n=>
   have Y:X.A.in1.units+n+20<eK:=by
    show X.A.units+1+n+20<eK;omega
   rcases d with⟨m,hm,t⟩|⟨O,J,xs,ys,e1,W,h1,h2,r⟩|⟨O,J,kvs,kws,e1,W,h1,h2,r⟩
   ·exact g m hm t
   ·cases e1
    cases W;exact wH I.hok Z h1 h2 r fun _ _ _ _ z a b=>zf I.hok Y z a b
   ·cases e1
    cases W;exact wI I.hok Z h1 h2 r fun _ _ _ _ z a b=>zf I.hok Y z a b
 exact U _ _ fin
theorem Gi(hu:X.A.units+50<eK):OpR X (cU .NotEq) (fun x y H Q=>∃n p q,n<=20/\x=.ref p/\y=.ref q/\TEq H n x y/\Q (.bl false) H):=by
 intro pins s σ H x y v u Q I Z Y h;obtain⟨n,p,q,D,rfl,rfl,d,k⟩:=h
 cases Z
 cases Y;have fin:EP X pins σ Q (.bool false) s:={.bl false,H,I,rfl,k};have V:X.A.units<eK:=by omega
 cases n with
 |zero=>exact d.1.elim
 |succ m=>
  have W:X.A.in1.units+m<eK:=by
   show X.A.units+1+m<eK;omega
  rcases d with⟨h1,_⟩|⟨M,J,xs,ys,e1,O,h1,h2,r⟩|⟨M,J,xs,ys,e1,O,h1,h2,r⟩
  ·exact h1.elim
  ·cases e1
   cases O;obtain⟨us,r1,i1⟩:=iD I.hok h1;obtain⟨vs,r2,i2⟩:=iD I.hok h2;obtain⟨e,z⟩:=nZ r r1 r2;have k:=RcNeAt.lists (A:=X.A) (e:=fun _=>true) i1 i2 (by simpa using e) V (fun j a b=>by
    obtain⟨x,y,U,Z,Y⟩:=z j (by simpa using a) (by simpa using b);simpa using qz I.hok W U Z Y)
   rw[sR]at k;exact k X.prog X.w _ _ fin
  ·cases e1
   cases O;obtain⟨us,r1,i1⟩:=iO I.hok h1;obtain⟨vs,r2,i2⟩:=iO I.hok h2;obtain⟨e,z⟩:=nZ r r1 r2;have k:=RcNeAt.tuples (A:=X.A) (e:=fun _=>true) i1 i2 V (fun j a b=>by
    obtain⟨x,y,U,Z,Y⟩:=z j (by simpa using a) (by simpa using b);simpa using qz I.hok W U Z Y)
   rw[sR,Nr,aH,aH,e,beq_self_eq_true]at k;exact k X.prog X.w _ _ fin
theorem EB{A:bZ}{k:Nat}(hr:cQ k A):A.units+50<eK:=by
 have:=hr.un;omega
end
end L2
namespace PySem
open Sem (wp)
section
variable{prog:aN}{w:bL}{A:bZ}{E:af->ak->Prop}{s:ak}
end
section
variable{prog:aN}{w:bL}{A:bZ}{R:Nb->ak->Prop}{I:aa}{fp wr:List aa}{n:Nat}{P:Nat->af->Prop}{St:Nat->cz->Prop}{G:cz->Prop}
end
section
variable{prog:aN}{w:bL}{A:bZ}{E:af->ak->Prop}{s:ak}
end
section
variable{prog:aN}{w:bL}{K:Type}[DecidableEq K]{knd:HeapKind prog w K}{A:bZ}{E:af->ak->Prop}{s:ak}
end
section
variable{prog:aN}{w:bL}{A:bZ}{E:af->ak->Prop}{s:ak}
end
end PySem
namespace HT
theorem BE:∀a:List Int,lexLt a a=false
 | []=>rfl
 |x::r=>by rw[lexLt_cons,if_pos rfl];exact BE r
theorem lx_trans:∀{a b c:List Int},lexLt a b=true->lexLt b c=true->lexLt a c=true
 | [],[],_,h,_=>by cases h
 | [],_::_,[],_,h=>by cases h
 | [],_::_,_::_,_,_=>rfl
 |_::_,[],_,h,_=>by cases h
 |_::_,_::_,[],_,h=>by cases h
 |x::a,y::b,z::c,h,k=>by
  rw[lexLt_cons]at h k |-
  by_cases e:x=y
  ·subst e;rw[if_pos rfl]at h
   by_cases f:x=z
   ·subst f;rw[if_pos rfl]at k |-;exact lx_trans h k
   ·rw[if_neg f]at k |-;exact k
  ·rw[if_neg e]at h;have h:=of_decide_eq_true h
   by_cases f:y=z
   ·subst f;rw[if_neg e];exact decide_eq_true h
   ·rw[if_neg f]at k;have k:=of_decide_eq_true k;rw[if_neg (by omega)];exact decide_eq_true (by omega)
theorem sT:∀{a b:List Int},lexLt a b=false->lexLt b a=false->a=b
 | [],[],_,_=>rfl
 | [],_::_,h,_=>by cases h
 |_::_,[],_,h=>by cases h
 |x::a,y::b,h,k=>by
  rw[lexLt_cons]at h k
  by_cases e:x=y
  ·subst e;rw[if_pos rfl]at h k;rw[sT h k]
  ·rw[if_neg e]at h;rw[if_neg (fun z=>e z.symm)]at k;have h:=of_decide_eq_false h;have k:=of_decide_eq_false k;exact absurd (by omega) e
theorem lx_asym{a b:List Int}(h:lexLt a b=true):lexLt b a=false:=by
 cases e:lexLt b a with
 |false=>rfl
 |true=>
  have z:=lx_trans h e;rw[BE]at z
  cases z
theorem lx_of_not{a b:List Int}(h:lexLt a b=false)(n:a≠b):lexLt b a=true:=by
 cases e:lexLt b a with
 |true=>rfl
 |false=>exact absurd (sT h e) n
open PySem PyProof.Rows
open PySem.SeqAt
open PySem.AutoSeq1 (wpAny_loadPart')
open PySem.MeetsSeq PySem.MeetsSeq2 PySem.MeetsSeq3
theorem JJ(l b:aa)(xs ys:Array af)(n m:Nat)(dd de:Option aa)(sl sm:Array (Option af))(ns ms:List Int)(hi:dN xs.toList ns)(hj:dN ys.toList ms) :
  Meets (iB.«tuple.__gt__» {[.ref l,.ref b],[]})
   (fun _ R s=>s.heap.get? l=some {cls:=.type "tuple",dict:=dd,data:=.seq xs n,slots:=sl}/\s.heap.get? b=some {cls:=.type "tuple",dict:=de,data:=.seq ys m,slots:=sm}/\R (.ok (.ret (.bool (lexLt ms ns)))) s):=
 .of_wp fun prog w A R s h=>by
  obtain⟨hp,g,d,tk,os⟩:=s;obtain⟨hl,hb,h⟩:=h;have f2:=jd;have z1:xs.size=ns.length:=by rw[<- hi.length];simp
  have z2:ys.size=ms.length:=by rw[<- hj.length];simp
  wp_walk using dy hl,dy hb,lL _ (fun rest b s'=>b.1=none/\s'=⟨hp,g,d,tk,os⟩/\∃(vs H:List af) (Y W:List Int),rest=vs.zip H /\
   dN vs Y/\dN H W/\Y.length+ys.size=W.length+xs.size/\R (.ok (.ret (.bool (lexLt W Y)))) ⟨hp,g,d,tk,os⟩) _
  case turn=>
   rintro⟨y,x⟩ rest b s' ⟨M,rfl,vs,H,Y,W,V,hv,hw,Z,O⟩
   cases hv with
   |nil=>rw[uI]at V;cases V
   |cons a t hv=>
    cases hw with
    |nil=>rw[tM]at V;cases V
    |cons c u hw=>
     rw[eZ]at V;injection V with z J;injection z with hy hx;subst hy hx;rw[lexLt_cons]at O;simp only[aT]at Z;obtain⟨e,he,U⟩:=wx A.in1 ⟨hp,g,d,tk,os⟩ a t c u;refine ax (he prog w _ _ ?_)
     cases e with
     |true=>
      rw[if_pos (U.mp rfl).symm]at O
      wp_walk
      exact{rfl,rfl,_,_,_,_,J,hv,hw,by omega,O}
     |false=>
      rw[if_neg (fun q=>absurd (U.mpr q.symm) aW)]at O;have D:∀(E:af->ak->Prop) (Q:af->ak->Prop),Q (.bool (decide (a>c))) ⟨hp,g,d,tk,os⟩->aX (bf prog w) A.in1 (p5 .Gt (.int a t) (.int c u)) Q E ⟨hp,g,d,tk,os⟩:=fun E Q q=>
       (PyProof.Rows.gt_int q:aX (bf prog w) A.in1 (cU .Gt (.int a t) (.int c u)) Q E _)
      wp_walk using D
      exact{_,rfl,by simpa using O}
  case fin=>
   rintro⟨b1,b2⟩ s' ⟨M,rfl,vs,H,Y,W,V,bH,I,Z,O⟩;simp only at M;subst M;have hv:lexLt W Y=decide (ys.size<xs.size):=by
    cases bH with
    |nil=>
     cases I with
     |nil=>
      simp only[cw]at Z;rw[m8];exact (decide_eq_false (by omega)).symm
     |cons c u hw=>
      simp only[cw,aT]at Z;rw[lJ];exact (decide_eq_false (by omega)).symm
    |cons a t hv=>
     cases I with
     |nil=>
      simp only[cw,aT]at Z;rw[lI];exact (decide_eq_true (by omega)).symm
     |cons c u hw=>
      rw[eZ]at V
      cases V
   rw[hv]at O
   wp_walk
   exact{_,rfl,by simpa[jr] using O}
  case h=>
   exact{rfl,rfl,xs.toList,ys.toList,ns,ms,rfl,hi,hj,by omega,h}
theorem gt_tup{prog:aN}{w:bL}{A:bZ}{E:af->ak->Prop}{s:ak}{l b:aa}{xs ys:Array af}{ns ms:List Int}{Q:af->ak->Prop}(hl:rY s.heap l xs)(hb:rY s.heap b ys)(hi:dN xs.toList ns)(W:dN ys.toList ms)
  (hu:A.units<eK) (h:Q (.bool (lexLt ms ns)) s):aX (bf prog w) A (cU .Gt (.ref l) (.ref b)) Q E s:=by
 obtain⟨⟨c1,dd,t1,sl⟩,Z,rfl,n,rfl⟩:=id hl;obtain⟨⟨O,V,U,sm⟩,Y,rfl,m,rfl⟩:=id hb;exact kM (op:=.Gt) {_,Z,rfl} {_,Y,rfl} zV zg (yh _ _) (JJ l b xs ys n m dd V sl sm ns ms hi W)
  {Z,Y,show Value.bool (lexLt ms ns)≠Value.notImplemented/\Q (.bool (lexLt ms ns)) s from{(fun x=>nomatch x),h}} hu
end HT
namespace L2
open PySem PySem.Spec PyProof.Rows
theorem uN:∀{ns ms:List Int},ns.map V.int=ms.map V.int->ns=ms
 | [],[],_=>rfl
 | [],_::_,h=>by cases h
 |_::_,[],h=>by cases h
 |x::a,y::b,h=>by
  injection h with h1 h2;injection h1 with h1;rw[h1,uN h2]
section
variable{X:Cx}
theorem yi{P:aN}{w:bL}{H:Hp}{s:ak}(ok:HOk P w H s.heap){A:bZ}{a b:aa}{ns ms:List Int}(hu:A.units<eK)(ha:H a=some (.tup (ns.map V.int)))(hb:H b=some (.tup (ms.map V.int))) :
  xA A s (.ref a) (.ref b) (decide (ns=ms)):=by
 by_cases e:a=b
 ·subst e;rw[ha]at hb;injection hb with hb;injection hb with hb;rw[uN hb,decide_eq_true rfl];exact Bt _
 ·obtain⟨us,r1,i1⟩:=iO ok ha;obtain⟨vs,r2,i2⟩:=iO ok hb;have k1:dN us ns:=intsAre_of r1;have k2:dN vs ms:=intsAre_of r2;have at_:∀{us:List af} {ns:List Int},dN us ns->∀(j:Nat) (h:j<us.length),∃(z:Int) (t:Tok),us[j]=.int z t/\ns[j]?=some z:=by
   intro us ns k
   induction k with
   |nil=>intro j h;exact absurd h (gW _)
   |cons z t _ I=>
    intro j h
    cases j with
    |zero=>exact⟨z,t,rfl,rfl⟩
    |succ j=>exact I j (qy h)
  have Z:=SeqAt.RcAt.tuples (A:=A) (e:=fun j=>decide (ns[j]?=ms[j]?)) i1 i2 hu fun j h1 h2=>by
   obtain⟨x,t,e1,Y⟩:=at_ k1 j (by simpa using h1);obtain⟨y,t',e3,J⟩:=at_ k2 j (by simpa using h2);rw[Y,J];have z:=qY (A:=A.in1) (s:=s) x t y t';have q:(x==y)=decide (some x=some y):=by
    by_cases e:x=y
    ·subst e;simp
    ·have W:¬some x=some y:=fun q=>e (dM q);rw[decide_eq_false W,beq_eq_false_iff_ne.mpr e]
   rw[q]at z;simpa[e1,e3] using z
  have fin:((gx (min us.toArray.size vs.toArray.size)).all (fun j=>decide (ns[j]?=ms[j]?))&&us.toArray.size==vs.toArray.size)=decide (ns=ms):=by
   have O:us.toArray.size=ns.length:=by rw[aH];exact k1.length
   have U:vs.toArray.size=ms.length:=by rw[aH];exact k2.length
   rw[O,U]
   by_cases c:ns=ms
   ·subst c;simp
   ·rw[decide_eq_false c,Bool.and_eq_false_iff]
    by_cases l:ns.length=ms.length
    ·left
     rw[List.all_eq_false];refine vC fun M=>c (Gj fun j=>?_)
     by_cases D:j<ns.length
     ·refine vC fun ne=>M {j,xU.mpr (by omega),?_};rw[decide_eq_false ne];simp
     ·rw[gJ (by omega),gJ (by omega)]
    ·right
     exact beq_eq_false_iff_ne.mpr l
  rw[fin]at Z;exact SeqAt.EqAt.of_refs e Z
open Classical in
def JK:V->List V->Hp->VK->Prop:=fun x vs H Q=>∃l xs i y,x=.ref l/\vs=[.int (i:Nat),y]/\H l=some (.lst xs)/\i<=xs.length/\xs.length<aB/\Q .non (upd H l (.lst (xs.take i++y::xs.drop i)))
theorem EC:MtM X "list.insert" JK:=by
 intro pins s σ H x vs v us Q I J D h;obtain⟨l,xs,i,y,rfl,rfl,M,hi,hz,q⟩:=h
 cases J;obtain⟨u,V,rfl,ru,W⟩:=D.two;obtain⟨t,rfl⟩:=ru;obtain⟨z,Z,n,r,hl,e⟩:=I.lstM M;have U:Z.toArray.size<=aB:=by rw[aH];omega
 generalize hx:((i:Nat):Int)=x;have O:tO x=true:=by
  have g:aB=16777216:=mi;exact fitsIndex_both (by omega) (by omega)
 have Y:¬(!tO x)=true:=by rw[O];exact aW
 refine oS F.slot_list_insert {_,e,rfl} F.entry_list_insert (F.args_list_insert_3 _ _ _) (O5 l Z.toArray n x t V Y U) {e,?_};refine{.non,_,I.lset (its':=Z.take i++V::Z.drop i) M e ?_ ((r.take i).append (.cons W (r.drop i))) ?_,rfl,q}
 ·have k:(if x<0 then (x+(Z.toArray.size:Int)).toNat else min x.toNat Z.toArray.size)=i:=by
   rw[if_neg (by omega),aH];omega
  show (Z.toArray.extract 0 (if x<0 then (x+(Z.toArray.size:Int)).toNat else min x.toNat Z.toArray.size)).push V++Z.toArray.extract (if x<0 then (x+(Z.toArray.size:Int)).toNat else min x.toNat Z.toArray.size)=_;rw[k];apply Array.toList_inj.mp;simp[List.extract_eq_take_drop];exact A6 (by rw[je];exact aD _)
 ·rw[aA,aT,c9,je];omega
theorem Cy{z:V}(h:sc0 z):scal z z=true:=by
 cases z with
 |non=>rfl
 |bl b=>rfl
 |int i=>rfl
 |str x=>rfl
 |byt b=>exact cI h
 |flt b=>exact cI h
 |ref a=>exact cI h
 |ty a=>exact cI h
theorem Nu(hu:X.A.units+50<eK):OpR X (cU .Eq) (fun x y H Q=>∃n,n<=20/\TEq H n x y/\Q (.bl true) H):=by
 intro pins s σ H x y v u Q I V U h;obtain⟨n,O,d,q⟩:=h;have sc:∀z,sc0 z->x=z->y=z->aX (bf X.prog X.w) X.A (cU .Eq v u) (EP X pins σ Q) X.xe s:=by
  rintro z M rfl rfl;refine eN pins s σ H _ _ v u Q I V U {Cy M,?_};rw[decide_eq_true rfl];exact q
 have W:∀p Z,x=.ref p->y=.ref Z->aX (bf X.prog X.w) X.A (cU .Eq v u) (EP X pins σ Q) X.xe s:=fun p Z e1 Y=>
  Nt hu pins s σ H x y v u Q I V U {0,p,Z,by omega,e1,Y,⟨n,O,d⟩,q}
 cases n with
 |zero=>exact sc x d.1 rfl d.2.symm
 |succ n=>
  rcases d with⟨h1,h2⟩|⟨p,Z,_,_,e1,Y,_⟩|⟨p,Z,_,_,e1,Y,_⟩
  ·exact sc x h1 rfl h2.symm
  ·exact W p Z e1 Y
  ·exact W p Z e1 Y
theorem Nv(hu:X.A.units+50<eK):OpR X (cU .NotEq) (fun x y H Q=>∃n,n<=20/\TEq H n x y/\Q (.bl false) H):=by
 intro pins s σ H x y v u Q I V U h;obtain⟨n,O,d,q⟩:=h;have sc:∀z,sc0 z->x=z->y=z->aX (bf X.prog X.w) X.A (cU .NotEq v u) (EP X pins σ Q) X.xe s:=by
  rintro z M rfl rfl;refine Cf pins s σ H _ _ v u Q I V U {Cy M,?_};rw[decide_eq_true rfl];exact q
 have W:∀p Z,x=.ref p->y=.ref Z->aX (bf X.prog X.w) X.A (cU .NotEq v u) (EP X pins σ Q) X.xe s:=fun p Z e1 Y=>
  Gi hu pins s σ H x y v u Q I V U ⟨n,p,Z,O,e1,Y,d,q⟩
 cases n with
 |zero=>exact sc x d.1 rfl d.2.symm
 |succ n=>
  rcases d with⟨h1,h2⟩|⟨p,Z,_,_,e1,Y,_⟩|⟨p,Z,_,_,e1,Y,_⟩
  ·exact sc x h1 rfl h2.symm
  ·exact W p Z e1 Y
  ·exact W p Z e1 Y
end
section
variable{X:Cx}{pins:List (aa×Obj)}{σ:St}{H:Hp}{s:ak}{d:aa}
theorem Inv.swap{o o':HO}(I:Inv X pins σ H s)(e:H d=some o)(nt:∀xs,o≠.tup xs)(nb:∀ps,o≠.tbl ps)(nw:∀a,o≠.own a)(V:∀ob u,X.H₀ d≠some (.frz ob u))(ok:eE X.prog X.w (upd H d o') s.heap d o'):Inv X pins σ (upd H d o') s:=by
 have Z:∀b,H b=none->upd H d o' b=none:=fun b z=>by
  rw[aO (av e z).symm];exact z
 have Y:∀b xs,H b=some (.tup xs)->upd H d o' b=some (.tup xs):=fun b xs z=>by
  rw[aO (pG z e (fun q=>nt xs q.symm))];exact z
 have W:∀b a,H b=some (.own a)->upd H d o' b=some (.own a):=fun b a z=>by
  rw[aO (pG z e (fun q=>nw a q.symm))];exact z
 refine{I.ok,I.os,I.bare,{I.base.keep,I.base.slot,fun b ob q n hx=>Z b (I.base.free b ob q n hx),I.base.there,fun b xs q=>Y b xs (I.base.tups b xs q),fun b ob u q=>?_,fun b ps q=>?_},I.loc,I.cell,Z _ I.free,fun x c q=>Z c (I.freeC x c q),fun p hp=>?_,fun b u q=>?_,I.len}
 ·have z:=I.base.frzs b ob u q;have nd:b≠d:=fun y=>V ob u (by rw[<- y];exact q);rw[aO nd];exact z
 ·obtain⟨more,z⟩:=I.base.tbls b ps q;refine{more,?_};rw[aO (pG z e (fun y=>nb _ y.symm))];exact z
 ·obtain⟨h1,h2,U⟩:=I.pin p hp;exact{h1,Z _ h2,U}
 ·by_cases z:b=d
  ·subst z;rw[ag]at q
   cases q;exact ok
  ·rw[aO z]at q;exact (I.hok b u q).stay (fun c v _ y=>y) (fun c y=>W c b y) Y
theorem Inv.freeze{kvs:List (Key×V)}(I:Inv X pins σ H s)(e:H d=some (.dK kvs))(Z:∀ob u,X.H₀ d≠some (.frz ob u)):∃od,s.heap.get? d=some od/\Inv X pins σ (upd H d (.frz od (.dK kvs))) s:=by
 obtain⟨h1,h2,vs,r,ob,es,ep,g1,Y⟩:=(show eE X.prog X.w H s.heap d (.dK kvs) from I.hok d _ e);exact{ob,g1,I.swap e (fun xs z=>by cases z) (fun ps z=>by cases z) (fun a z=>by cases z) Z ⟨g1,h1,h2,vs,r,ob,es,ep,g1,Y⟩}
theorem Inv.thaw{kvs:List (Key×V)}{od:Obj}(I:Inv X pins σ H s)(e:H d=some (.frz od (.dK kvs)))(Z:∀ob u,X.H₀ d≠some (.frz ob u)):Inv X pins σ (upd H d (.dK kvs)) s:=by
 obtain⟨_,h1⟩:=(show eE X.prog X.w H s.heap d (.frz od (.dK kvs)) from I.hok d _ e);exact I.swap e (fun xs z=>by cases z) (fun ps z=>by cases z) (fun a z=>by cases z) Z h1
end
def Iti(d:aa)(od:Obj)(kvs:List (Key×V)):It:=
 {fun i H=>H d=some (.frz od (.dK kvs))/\i<kvs.length,fun i H x H'=>∃t Z,x=.ref t/\H t=none/\kvs[i]?=some Z/\H'=upd H t (.tup [kV Z.1,Z.2]),fun i H=>H d=some (.frz od (.dK kvs))/\kvs.length<=i}
theorem KV.at_{kvs:List (Key×V)}{vs:List (Key×af)}(r:KV kvs vs):∀{i:Nat} {Z:Key×V},kvs[i]?=some Z->∃u,vs[i]?=some (Z.1,u)/\RelV Z.2 u:=by
 induction r with
 |nil=>intro i Z h;simp at h
 |cons a _ Y=>
  intro i Z h
  cases i with
  |zero=>
   simp at h;subst h;exact{_,by rw[List.getElem?_cons_zero,a.1],a.2}
  |succ i=>
   obtain⟨u,h1,h2⟩:=Y (by simpa using h);exact{u,by simpa using h1,h2}
theorem Nx{P:aN}{w:bL}{k:Key}{u:af}(h:(eY P w).is k u=true):RelV (kV k) u:=by
 rcases gB h with⟨i,t,rfl,rfl⟩|⟨x,t,rfl,rfl⟩
 ·exact⟨t,rfl⟩
 ·exact⟨t,rfl⟩
theorem ua:entryFor table "dict_itemiterator.__iter__"=some iB.«dict_keyiterator.__iter__»:=
 entryFor_alias (id':="dict_keyiterator.__iter__") (by kernel_rfl) rfl (by decide +kernel) (by kernel_rfl)
section
variable{P:aN}{w:bL}{K:ae}
def JL(o:Obj):Nat:=match o.data with|.dict _ ep=>ep|_=>0
theorem BF{X:Cx}{pins:List (aa×Obj)}{σ:St}{H:Hp}{s:ak}{d:aa}{od:Obj}{kvs:List (Key×V)}(I:Inv X pins σ H s)(e:H d=some (.frz od (.dK kvs))):∃vs,KV kvs vs/\s.heap.DictAt (eY X.prog X.w) d vs (JL od):=by
 obtain⟨g0,h1,h2,vs,r,ob,es,ep,g1,W,Z,Y⟩:=(show eE X.prog X.w H s.heap d (.frz od (.dK kvs)) from I.hok d _ e);rw[g0]at g1
 cases g1;have U:JL od=ep:=by
  unfold JL;rw[Z]
 rw[U];exact⟨vs,r,od,es,g0,W,Z,Y⟩
theorem BG{elts:List cN} {x1} {pos:Pos} (d it:aa) (od:Obj) (kvs:List (Key×V)) (bW:d≠it):Ef P w K (.Tuple elts x1 pos) (Iti d od kvs) [it] it (fun i h=>∃ok Y,IsItemIter h it d i kvs.length (JL od) ok Y) where
 mem:=by simp
 obj:=fun i h st b hb=>by
  have e:b=it:=by simpa using hb
  subst e;obtain⟨ok,Y,e⟩:=st;exact{_,e,fun v z=>by cases z}
 keep:=fun i h h' ⟨ok,Y,st⟩ k=>{ok,Y,k it (by simp) _ st}
 item:=by
  intro X hP hw hK hc i pins s σ H E I hf st hg;subst hP hw hK;obtain⟨ok,Y,st⟩:=st;obtain⟨hd,hi⟩:=hg;obtain⟨vs,r,da⟩:=BF I hd;have hl:=r.length;have J:kvs[i]?=some kvs[i]:=aI hi;obtain⟨u,hu,ru⟩:=r.at_ J;obtain⟨O,f1,f2,t,D,g⟩:=hf it (by simp);rw[hl]at st;refine wpAny_pyNext_items_item st da hu fun key h' hk U ce ca kp=>?_;have I1:Inv X pins σ H {s with heap:=h'}:=I.turned (t':=s.toks) (fun b o hb e=>kp b o hb e) O f1 t D g;refine{_,rfl,wpAny_letOwnedTupleGo_items U fun h2 W sb=>?_};have Z:Inv X pins σ H {s with heap:=h2}:=I1.turned (t':=s.toks) (fun b o hb e=>sb.extBut b o hb e) O f1 t D g;have fr:H s.heap.objs.size=none:=I.hok.fresh (aD _);have M:s.heap.objs.size≠it:=(aR (aQ st)).symm;have e2:h2.get? s.heap.objs.size=some {cls:=.type "tuple",data:=.seq #[key,u]}:=sb.extBut _ _ M ce;have I3:Inv X pins σ (upd H s.heap.objs.size (.tup [kV kvs[i].1,kvs[i].2])) {s with heap:=h2}:=by
   have cd:∀b v,s.heap.get? b=some v->b≠it->h2.get? b=some v:=fun b v q n=>sb.extBut b v n (kp b v n q);exact⟨Z.ok,Z.os,Z.bare,⟨Z.base.keep,Z.base.slot,fun b ob q n hx=>by
     have z:=Z.base.free b ob q n hx
     by_cases y:b=s.heap.objs.size
     ·exfalso;have lt:b<s.heap.objs.size:=bD (aQ q) I.sz;rw[y]at lt;exact absurd lt (g9 _)
     ·rw[aO y];exact z,Z.base.there,fun b xs q=>by
     rw[aO (av (Z.base.tups b xs q) fr)];exact Z.base.tups b xs q,fun b ob v q=>by
     rw[aO (av (Z.base.frzs b ob v q) fr)];exact Z.base.frzs b ob v q,fun b ps q=>by
     obtain⟨m,z⟩:=Z.base.tbls b ps q;exact{m,by rw[aO (av z fr)];exact z}⟩,Z.loc,Z.cell,by
     rw[aO (aR I.lt)];exact Z.free,fun x c q=>by
     obtain⟨v,y⟩:=I.cell x c q;rw[aO (aR y.lt)];exact Z.freeC x c q,fun p hp=>by
     obtain⟨h1,ci,h3⟩:=Z.pin p hp;obtain⟨g1,_⟩:=I.pin p hp;refine{h1,?_,h3};rw[aO (aR (aQ g1))];exact ci,fun b v q=>by
     by_cases y:b=s.heap.objs.size
     ·subst y;rw[ag]at q
      cases q;exact{(by show 2<=aB;decide),[key,u],.cons (Nx hk) (.cons ru .nil),_,e2,rfl,0,rfl}
     ·rw[aO y]at q;exact (Z.hok b v q).stay (fun c v' _ z=>z) (fun c z=>by rw[aO (av z fr)];exact z) fun c xs z=>by rw[aO (av z fr)];exact z,Z.len⟩
  refine{.ref s.heap.objs.size,_,I3,rfl,{_,_,rfl,fr,J,rfl},{_,_,by rw[hl];exact W},fun b hb=>?_};have e:b=it:=by simpa using hb
  subst e;rw[aO (gj M)];exact O
 done:=by
  intro X hP hw hK hc i pins s σ H E I hf st hg;subst hP hw hK;obtain⟨ok,Y,st⟩:=st;obtain⟨hd,hi⟩:=hg;obtain⟨vs,r,da⟩:=BF I hd;have hl:=r.length;obtain⟨O,f1,f2,t,D,g⟩:=hf it (by simp);rw[hl]at st;exact wpAny_pyNext_items_end (I.ok.hd hc) st da (gJ (by omega)) fun h' eb=>{rfl,I.turned (t':=s.toks) (fun b o hb e=>eb b o hb e) O f1 t D g}
 self:=fun A i s Q E ⟨ok,Y,st⟩ h=>by
  have ty:s.TypeIs (.ref it) "dict_itemiterator":={_,st,rfl};refine xO ty F.slot_dict_itemiterator_iter (rE F.slot_dict_itemiterator_iter ty ua ?_ (F.args_dict_itemiterator_iter_1 _));show aX _ _ (ret (.ref it)) _ _ s;exact bK {_,rfl,"dict_itemiterator",_,ty,F.slot_dict_itemiterator_next.lookup,h}
end
section
variable{X:Cx}{o:cN}{to:TE}{apos cpos:Pos}{elts:List cN}{x1:Nat}{pos:Pos}
def Ny(X:Cx)(to:TE):TI:=fun σ H R=>to σ H fun x H1=>∃d kvs,x=.ref d/\H1 d=some (.dK kvs)/\(∀ob u,X.H₀ d≠some (.frz ob u))/\∀od,R (Iti d od kvs) (upd H1 d (.frz od (.dK kvs)))
theorem Au(ho:PE X o to)(Y:me o "items" X.env (fg o X.env)=fg o X.env:=by rfl)(Z:(apos.endLine==cpos.line)=true:=by rfl):PI X (.Tuple elts x1 pos) (.Call (.Attribute o "items" apos) [] [] cpos) (Ny X to):=by
 intro pins s σ H R I h;refine Fh Y Z (thn (ho pins s σ H _ I h) fun v W ⟨x,H1,O,r1,d,kvs,ex,hd,D,q⟩=>?_);subst ex
 cases r1;obtain⟨hz,n1,J,k1,V⟩:=(show eE X.prog X.w H1 W.heap d (.dK kvs) from O.hok d _ hd);obtain⟨ob,_,_,g1,t,_⟩:=id V;refine{"dict","dict.items",PySem.F.plainAttrs_dict,yj,PySem.F.type_dict_items,V.typeIs,fun a e=>?_,pT rfl (Co ?_)}
 ·cases e;exact⟨ob,g1,t.2.1⟩
 refine F4 yj V.typeIs PySem.F.entry_dict_items (PySem.F.args_dict_items_1 _) (meets_dict_items (eY X.prog X.w) d n1) {⟨J,V⟩,?_};have M:Inv X pins σ H1 {W with heap:=W.heap.push {cls:=.type "dict_items",data:=.fields #[.ref d]}}:=O.kept (t':=W.toks) fun b ob q=>aJ _ q;obtain⟨od,g,U⟩:=M.freeze hd D;obtain⟨vs,r,z⟩:=BF U (ag:upd H1 d (.frz od (.dK kvs)) d=_);refine wpAny_pyIter_items {_,cy _ rfl,rfl,rfl} z ?_;have lt:=aQ g;refine{_,[_],_,_,_,rfl,U.kept (t':=W.toks) fun b ob q=>aJ _ q,BG d _ od kvs (aR lt),{.none,.none,?_},fun b hb=>?_,q od}
 ·rw[r.length];exact cy _ rfl
 ·have e:b=_:=aE.mp hb;subst e;exact U.fpOk (aD _) (U.hok.fresh (aD _))
end
theorem yk{d:aa}{od:Obj}{kvs:List (Key×V)}{g:TG}{tb:TS}{D:m5}{σ:St}{H:Hp}(Z:Nat->St->Hp->Prop)(h0:Z 0 σ H)(hl:∀i σ H,i<=kvs.length->Z i σ H->H d=some (.frz od (.dK kvs)))
  (hs:∀i O t σ H,kvs[i]?=some O->Z i σ H->H t=none->g (.ref t) σ (upd H t (.tup [kV O.1,O.2])) fun U H2=>tb {D with nx:=Z (i+1),ct:=Z (i+1),bk:=D.nx} U H2) (hd:∀σ H,Z kvs.length σ H->D.nx σ H) :
  ∃W:Nat->Nat->St->Hp->Prop,(∃m,W 0 m σ H)/\∀i m σ H,W i m σ H ->
   ((Iti d od kvs).stop i H/\D.nx σ H)\/((Iti d od kvs).go i H/\∃N:St->Hp->Prop,(∀Y H',N Y H'->∃M,M<m/\W (i+1) M Y H')/\∀x H',(Iti d od kvs).yld i H x H'->g x σ H' fun U H2=>tb {D with nx:=N,ct:=N,bk:=D.nx} U H2):=by
 refine{fun i m σ H=>m=kvs.length-i/\i<=kvs.length/\Z i σ H,{kvs.length,by simp,bU _,h0},?_};rintro i m σ H ⟨rfl,hi,p⟩;have q:=hl i σ H hi p
 by_cases lt:i<kvs.length
 ·refine .inr {⟨q,lt⟩,Z (i+1),fun Y H' J=>{kvs.length-(i+1),by omega,rfl,lt,J},fun x H' y=>?_};obtain⟨t,O,rfl,ht,hk,rfl⟩:=y;exact hs i O t σ H hk p ht
 ·have e:i=kvs.length:=by omega
  subst e;exact .inl {{q,aD _},hd σ H p}
def Lu(X:Cx)(D:m5):m5 where
 nx:=fun σ H=>∃d od kvs,H d=some (.frz od (.dK kvs))/\(∀ob u,X.H₀ d≠some (.frz ob u))/\D.nx σ (upd H d (.dK kvs))
 rt:=D.rt
 bk:=D.bk
 ct:=D.ct
theorem Cz{X:Cx}{st:cT}{t:TS}(h:PS X st t):PS X st (fun D σ H=>t (Lu X D) σ H):=by
 intro pins s σ H D I q;refine thn (h pins s σ H (Lu X D) I q) fun fl V z=>?_
 cases fl with
 |next=>
  obtain⟨Z,H',W,d,od,kvs,e,Y,y⟩:=z;exact{Z,_,W.thaw e Y,y}
 |brk=>exact z
 |cont=>exact z
 |ret u=>exact z
end L2
namespace L2
open PySem PySem.Spec PyProof.Rows PySem.SeqAt
section
variable{P:aN}{w:bL}{H:Hp}{s:ak}
end
section
variable{X:Cx}
end
end L2
namespace L2
open PySem PySem.Spec PyProof.Rows
section
variable{prog:aN}{w:bL}{A:bZ}{E:af->ak->Prop}{s:ak}
end
section
variable{X:Cx}
end
structure xP(K:ae)(C:aa):Prop where
 ga:aU K (.ref C) "__getattribute__"=some (some (.builtin "BaseException.__getattribute__"))
 gh:aU K (.ref C) "__getattr__"=some none
 cl:aU K (.ref C) "__class__"=some (some (.builtin "object.__class__"))
 cn:Cj K (.builtin "object.__class__") "__get__"=some (some (.builtin "getset_descriptor.__get__"))
 ck:Fb K (.builtin "object.__class__")=some true
 ob:xy K C (.type "object")=some true
 be:xy K C (.type "BaseException")=some true
theorem BH:Manifest.canonical "BaseException.__getattribute__"="object.__getattribute__":=by decide +kernel
section
variable{prog:aN}{w:bL}{A:bZ}{E:af->ak->Prop}{s:ak}{K:ae}{x C:aa}{ox:Obj}
theorem Gm{f:aa}{name:Str}{pl:Sem Bool}{Q:af×List af->ak->Prop}(X:K.In s.heap)(I:vZ s.heap x ox C none)(c:xP K C)(Z:aU K (.ref C) name=some (some (.ref f)))(ht:FF K (.ref f)=some (.type "function"))
  (h:Q (.ref f,[.ref x]) s):aX (bf prog w) A (lG (.ref x) name pl) Q E s:=by
 unfold lG specialOf;refine ax (ax (I.type.here ((j8 X c.ga).here ?_)));dsimp only;rw[BH,if_neg (by decide)];refine ax (ax (I.type.here ((j8 X c.gh).here ?_)));refine ax (ax (I.type.here ((j8 X Z).here (ax ((PySem.W.looks_typeIn X ht).here ?_)))));rw[if_neg (by decide +kernel)];refine ax (wpAny_loadPart I.at_ ?_);have hd:=I.dict
 cases e:ox.dict with
 |none=>exact ax (BC (bK h))
 |some dx=>rw[e]at hd;exact hd.elim
end
def XOk(a C:aa)(h:cz):Prop:=∃ob,h.get? a=some ob/\ob.cls=.ref C/\ob.dict=none/\Gn ob=true
def XO(a C:aa):HO:=.ext (XOk a C)
theorem XOk.obj{P:aN}{w:bL}{H:Hp}{h:cz}{a C:aa}(x:XOk a C h):eE P w H h a (XO a C):=by
 obtain⟨ob,e,r⟩:=x;refine{⟨ob,e,r⟩,⟨ob,e⟩,fun h1 h2 y k=>?_};obtain⟨o,e1,r1⟩:=y;exact{o,k o e1,r1}
theorem XOk.inst{h:cz}{a C:aa}(x:XOk a C h):∃ox,vZ h a ox C none:=by
 obtain⟨ob,e,c,d,n⟩:=x;exact{ob,e,c,n,by rw[d];trivial}
theorem Nz{P:aN}{w:bL}{H:Hp}{h:cz}{a C:aa}(ok:HOk P w H h)(e:H a=some (XO a C)):XOk a C h:=(ok a _ e).1
section
variable{X:Cx}{pins:List (aa×Obj)}{σ:St}{H:Hp}{s:ak}
end
section
variable{P:aN}{w:bL}{H:Hp}{h h':cz}{a:aa}{o:HO}{fs ex:List aa}
end
section
variable{X:Cx}{pins:List (aa×Obj)}{σ:St}{H:Hp}{s:ak}{C:aa}{x:Str}{p pos:Pos}{e:cN}{es:List cN}{t:TA}
end
section
variable{X:Cx}{CX:CXT}{k:Nat}{f C:aa}{fd:bR}{ps:List Str}{sp:Sp}{E:XK}{m:Str}{pos apos:Pos}{o:cN}{ta:TE}
end
section
variable{X:Cx}{pins:List (aa×Obj)}{σ:St}{H:Hp}{s:ak}
theorem Inv.adopt{B:cz}{Z C:aa}{fl:af}(I:Inv X pins σ H s)(f:FlD B X.stack Z (.ref C) fl s.heap)(V:xJ X pins H B s.heap):H Z=none/\Inv X pins σ (upd H Z (XO Z C)) s:=by
 obtain⟨hB,hn,hl,U,vs,T,oT,ts,W,hc,O,hd,_⟩:=f;have M:Z∉frs X.stack:=fun z=>by
  obtain⟨_,o,ho,q⟩:=hl.mem z;rw[W]at ho
  cases ho;exact q vs hd
 have nb:∀o,B.get? Z≠some o:=fun o z=>by rw[hn]at z;cases z
 have J:H Z=none:=by
  cases z:H Z with
  |none=>rfl
  |some u=>exact absurd (V Z U (.inl (by rw[z];simp)) M W) (nb U)
 have ne:∀{b:aa} {o:HO},H b=some o->b≠Z:=fun {b o} z=>av z J;refine{J,I.ok,I.os,I.bare,{I.base.keep,I.base.slot,fun b o e n hx=>?_,I.base.there,fun b xs e=>?_,fun b o u e=>?_,fun b ps e=>?_},I.loc,I.cell,?_,fun x c e=>?_,fun p hp=>?_,fun b u e=>?_,I.len}
 ·rw[aO]
  ·exact I.base.free b o e n hx
  ·rintro rfl;exact nb U (V _ U (.inr (.inl ⟨hx,o,e⟩)) M W)
 ·have z:=I.base.tups b xs e;rw[aO (ne z)];exact z
 ·have z:=I.base.frzs b o u e;rw[aO (ne z)];exact z
 ·obtain⟨more,z⟩:=I.base.tbls b ps e;exact{more,by rw[aO (ne z)];exact z}
 ·rw[aO]
  ·exact I.free
  ·intro z;obtain⟨m,⟨o,es,ep,ho,Y,_⟩,_⟩:=I.loc;rw[z,W]at ho
   cases ho;rw[hd]at Y
   cases Y
 ·rw[aO]
  ·exact I.freeC x c e
  ·intro z;obtain⟨v,o,ho,Y⟩:=I.cell x c e;rw[z,W]at ho
   cases ho;rw[hd]at Y
   cases Y
 ·obtain⟨e1,t,e3,e4,g⟩:=I.pin p hp;refine{e1,?_,e3,e4,g};rw[aO]
  ·exact t
  ·intro z;have D:s.heap.get? Z=some p.2:=by rw[<- z];exact e1
   rw[W]at D
   cases D;exact nb _ (V Z _ (.inr (.inr ⟨p,hp,z⟩)) M W)
 ·by_cases hb:b=Z
  ·subst hb;rw[ag]at e
   cases e;refine XOk.obj {U,W,hc,O,?_};unfold Gn;rw[hd]
  ·rw[aO hb]at e;exact (I.hok b u e).stay (fun _ _ _ q=>q) (fun c q=>by rw[aO (ne q)];exact q) fun c xs q=>by rw[aO (ne q)];exact q
theorem ED{M:Jb}{A:bZ}{E:af->ak->Prop}{i:Nat}{x:Str}{v:V}{Q:Unit->ak->Prop}(I:Inv X pins σ H s)(hN:X.N.Nodup)(hi:X.N[i]?=some x)(hk:X.env.scope.names.lookup x=some .local)(hv:σ[i]?=some (some v))
  (h:∀s',Inv X pins (σ.set i none) H s'->Q () s'):aX M A (unbindName X.env x) Q E s:=by
 obtain⟨m,hn,hl⟩:=id I.loc;have Y:(X.env.scope.kind==.class||(X.env.scope.kind==.module&&X.env.locals != X.env.globals))=false:=by rw[I.ok.kind];rfl
 have W:X.env.kindOf x=some .local:=hk;have t:(m x).isSome=true:=by
  obtain⟨u,_,q⟩:=hl i x v hi hv (.inl hk)
  rcases q with⟨_,e⟩|⟨k,_⟩
  ·rw[e];rfl
  ·rw[W]at k
   rcases k with k|k<;>cases k
 unfold unbindName;refine ax (wpAny_point (ax ?_));unfold deleteName;simp only[W,Y];rw[if_neg (by decide)];refine ax (wpAny_nsDel_keeps hn fun h' v' g hs=>?_);rw[t];simp only[Bool.not_true,tP,if_false];refine bK (wpAny_point (h _ ?_));obtain⟨oL,_,_,bF,_⟩:=id hn;have cne:=I.cne;have Z:∀b o,X.s₀.heap.get? b=some o->b≠X.env.locals:=fun b o e=>aR (bD (aQ e) I.ok.above);refine{I.ok,I.os,I.bare,{fun b o e n hb hx=>(hs.2 b (Z b o e)).trans (I.base.keep b o e n hb hx),fun b o e n hb hx=>?_,I.base.free,fun b o e hx=>?_,I.base.tups,I.base.frzs,I.base.tbls},{_,g,fun j y v2 e1 U e3=>?_},fun y c e=>?_,I.free,I.freeC,fun p hp=>?_,fun b ob e=>?_,by simpa using I.len}
 ·obtain⟨sl,e1⟩:=I.base.slot b o e n hb hx;exact{sl,(hs.2 b (Z b o e)).trans e1}
 ·obtain⟨o',e1⟩:=I.base.there b o e hx;exact{o',(hs.2 b (Z b o e)).trans e1}
 ·by_cases O:j=i
  ·subst O;have D:j<σ.length:=(aG.mp hv).1;rw[fJ D]at U
   cases U
  ·rw[i0 (gj O)]at U;obtain⟨u',r',q⟩:=hl j y v2 e1 U e3;refine{u',r',?_}
   rcases q with⟨k,e⟩|⟨k,c,e,z⟩
   ·refine .inl {k,?_};have J:y≠x:=fun e=>O (vQ hN e1 (e ▸ hi));simp[J,e]
   ·exact .inr {k,c,e,z.sameBut hs (cne y c e)}
 ·obtain⟨w',z⟩:=I.cell y c e;exact{w',z.sameBut hs (cne y c e)}
 ·obtain⟨e,n,ne,nf,d⟩:=I.pin p hp;exact{(hs.2 p.1 ne).trans e,n,ne,nf,d}
 ·refine (I.hok b ob e).stay (fun c w' hc q=>(hs.2 c ?_).trans q) (fun _ q=>q) fun _ _ q=>q;rintro rfl
  rcases hc with rfl|hc
  ·rw[I.free]at e;cases e
  ·rw[I.free]at hc;cases hc
def Lv(i:Nat)(D:m5):m5:={nx:=fun σ H=>D.nx (σ.set i none) H,rt:=D.rt,bk:=fun σ H=>D.bk (σ.set i none) H,ct:=fun σ H=>D.ct (σ.set i none) H}
def thAs(K:ae)(Y:aa)(i:Nat)(t:TS)(th:TH):TH:=fun C D σ H=>
 (cm K (.ref C) (.ref Y)=some true/\∀Z,H Z=none->t (Lv i D) (σ.set i (some (.ref Z))) (upd H Z (XO Z C)))\/(cm K (.ref C) (.ref Y)=some false/\th C D σ H)
theorem vD{M:Jb}{A:bZ}{E:af->ak->Prop}{i:Nat}{x:Str}{pos:Pos}{Q:Unit->ak->Prop}(I:Inv X pins σ H s)(W:X.N.Nodup)(hi:X.N[i]?=some x)(hk:X.env.scope.names.lookup x=some .local)
  (h:∀s',Inv X pins (σ.set i none) H s'->Q () s'):aX M A (do bindName X.env x .none;uc X.env x pos) Q E s:=by
 have Z:i<σ.length:=by
  rw[I.len];exact (aG.mp hi).1
 refine ax (wpAny_bindName (sC (v:=.non) I W hi (.inl hk) rfl (fun U V=>?_) (.inr hk)));unfold uc;refine wpAny_onRaise (ED (v:=.non) V W hi hk (fJ Z) fun s2 Y=>h s2 ?_);rw[List.set_set]at Y;exact Y
theorem NA{x n:Str}{Ci:aa}{np pos:Pos}{W:cT}{Y:List cT}{rest:List jM}{t:TS}{th:TH}(i:Nat)(hg:Gl X x)(hm:X.mg x=some (.ref Ci))(hN:X.N.Nodup)(hi:X.N[i]?=some n)(hk:X.env.scope.names.lookup n=some .local)
  (bH:∀Z,PSs (X.hdl Z) (W::Y) t) (hr:PHs X rest th) (hd:(x==("__debug__":Str))=false:=by decide):PHs X (.ExceptHandler (some (.Name x np)) (some n) (W::Y) pos::rest) (thAs X.K Ci i t th):=by
 intro pins s σ H D Z C B I fl g h;refine Lp (IU ?_) (by intro q;cases q);refine qW (X:=X.hdl Z) (I.hdl Z) hg hm ?_ hd;obtain⟨ob,bI,hc⟩:=fl.there;have LT:IV (bf X.prog X.w) s.heap (typeOf (.ref Z)) (.ref C):=by
  rw[<- hc];exact (y8 bI).andThen .now
 rcases h with⟨hx,q⟩|⟨hx,q⟩
 ·refine (pK I.kIn LT hx).here ?_;refine codeAny_handlers_suite_as (nY fl fun h6 M bG=>?_);have I6:=I.landed M.1 g bG;obtain⟨hz,J⟩:=I6.adopt M (xJ.land I M.1 g);refine sC (X:=X.hdl Z) (v:=.ref Z) (J.hdl Z) hN hi (.inl hk) rfl (fun s2 I2=>?_) (.inr hk);refine eu (bH Z pins _ _ _ (Lv i D) I2 (q Z hz)) (fun f s3 z=>?_) (fun _ _ z=>cI z);show aX _ X.A (do bindName X.env n .none;uc X.env n pos) (fun _ s₃=>SP X pins D f s₃) X.xe s3
  cases f with
  |next=>obtain⟨V,H',I3,U⟩:=z;exact vD (I3.unhdl I.ok) hN hi hk fun s4 O=>{_,_,O,U}
  |brk=>obtain⟨V,H',I3,U⟩:=z;exact vD (I3.unhdl I.ok) hN hi hk fun s4 O=>{_,_,O,U}
  |cont=>obtain⟨V,H',I3,U⟩:=z;exact vD (I3.unhdl I.ok) hN hi hk fun s4 O=>{_,_,O,U}
  |ret u=>obtain⟨v,V,H',I3,r3,U⟩:=z;exact vD (I3.unhdl I.ok) hN hi hk fun s4 O=>{v,_,_,O,r3,U}
 ·refine (pK I.kIn LT hx).here ?_;exact hr pins s σ H D Z C B I fl g q
end
section
variable{X:Cx}{pins:List (aa×Obj)}{σ:St}{H:Hp}{s s2:ak}{h':cz}
theorem Inv.turned2{t':Nat}{e it:aa}(I:Inv X pins σ H s)(k:∀b o,b≠e->b≠it->s.heap.get? b=some o->h'.get? b=some o)(f:yM X pins H e)(g:yM X pins H it):Inv X pins σ H {s with heap:=h',toks:=t'}:=by
 have Y:∀b u,H b=some u->b≠e:=fun b u q z=>by rw[z,f.1]at q;cases q
 have Z:∀b u,H b=some u->b≠it:=fun b u q z=>by rw[z,g.1]at q;cases q
 obtain⟨t,f1,f2,W,J,U⟩:=f;obtain⟨g0,g1,g2,D,V,O⟩:=g;refine I.step (g':=s.gens) (d':=s.drawn) (ch:=[e,it]) (fun b hb=>?_) (fun b o _ _ hc q _=>k b o (fun z=>hc (by simp[z])) (fun z=>hc (by simp[z])) q) (fun b o _ _ hc q _=>{o.slots,k b o (fun z=>hc (by simp[z])) (fun z=>hc (by simp[z])) q}) (fun _ _ _ _ n=>n)
  (fun b o hc q=>{o,k b o (fun z=>hc (by simp[z])) (fun z=>hc (by simp[z])) q}) (fun _ _ q=>q) (fun _ _ _ q=>q) (fun b ps q=>{#[],by rw[q];simp}) (fun m hm=>?_) (fun b u q=>?_) I.bare
 ·rcases ar.mp hb with z|z
  ·subst z;exact⟨W,f1,J,U⟩
  ·have z:=aE.mp z;subst z;exact⟨D,g1,V,O⟩
 ·obtain⟨o,es,ep,ho,r⟩:=hm;exact{o,es,ep,k _ o (gj f1) (gj g1) ho,r}
 ·refine (I.hok b u q).stay (fun c v hc M=>k c v ?_ ?_ M) (fun _ q=>q) fun _ _ q=>q
  ·rcases hc with z|z
   ·rw[z];exact Y b u q
   ·exact Y c _ z
  ·rcases hc with z|z
   ·rw[z];exact Z b u q
   ·exact Z c _ z
theorem Inv.track{o:HO}(I:Inv X pins σ H s)(Z:Inv X pins σ H s2)(ok:eE X.prog X.w (upd H s.heap.objs.size o) s2.heap s.heap.objs.size o):Inv X pins σ (upd H s.heap.objs.size o) s2:=by
 have fr:H s.heap.objs.size=none:=I.hok.fresh (aD _);exact⟨Z.ok,Z.os,Z.bare,⟨Z.base.keep,Z.base.slot,fun b ob q n hx=>by
   have z:=Z.base.free b ob q n hx
   by_cases y:b=s.heap.objs.size
   ·exfalso;have lt:b<s.heap.objs.size:=bD (aQ q) I.sz;rw[y]at lt;exact absurd lt (g9 _)
   ·rw[aO y];exact z,Z.base.there,fun b xs q=>by
   rw[aO (av (Z.base.tups b xs q) fr)];exact Z.base.tups b xs q,fun b ob v q=>by
   rw[aO (av (Z.base.frzs b ob v q) fr)];exact Z.base.frzs b ob v q,fun b ps q=>by
   obtain⟨m,z⟩:=Z.base.tbls b ps q;exact{m,by rw[aO (av z fr)];exact z}⟩,Z.loc,Z.cell,by
   rw[aO (aR I.lt)];exact Z.free,fun x c q=>by
   obtain⟨v,y⟩:=I.cell x c q;rw[aO (aR y.lt)];exact Z.freeC x c q,fun p hp=>by
   obtain⟨h1,Y,W⟩:=Z.pin p hp;obtain⟨g1,_⟩:=I.pin p hp;refine{h1,?_,W};rw[aO (aR (aQ g1))];exact Y,fun b v q=>by
   by_cases y:b=s.heap.objs.size
   ·subst y;rw[ag]at q
    cases q;exact ok
   ·rw[aO y]at q;exact (Z.hok b v q).stay (fun c V _ z=>z) (fun c z=>by rw[aO (av z fr)];exact z) fun c xs z=>by rw[aO (av z fr)];exact z,Z.len⟩
end
def Ite(K:ae)(a:aa):It:=
 {fun i H=>∃xs x,SqL K H a xs/\xs[i]?=some x,fun i H x H'=>∃t y,x=.ref t/\H t=none/\(∀xs,SqL K H a xs->xs[i]?=some y)/\H'=upd H t (.tup [.int i,y]),fun i H=>∃xs,SqL K H a xs/\xs.length<=i}
section
variable{P:aN}{w:bL}{K:ae}
theorem EE{elts:List cN} {x1} {pos:Pos} (a e it:aa) (W:e≠it):Ef P w K (.Tuple elts x1 pos) (Ite K a) [e,it] e (fun i h=>∃old,IsEnum h e it (i:Int) old/\h.IsListIter it a i) where
 mem:=by simp
 obj:=fun i h st b hb=>by
  obtain⟨old,h1,h2⟩:=st
  rcases ar.mp hb with z|z
  ·subst z;exact{_,h1,fun v z=>by cases z}
  ·have z:=aE.mp z;subst z;obtain⟨o,e,c,d⟩:=h2;exact{o,e,fun v z=>by rw[d]at z;cases z}
 keep:=fun i h h' ⟨old,h1,h2⟩ k=>{old,k e (by simp) _ h1,h2.at fun o q=>k it (by simp) o q}
 item:=by
  intro X O hw g hc i pins s σ H E I U st t;subst O hw g;obtain⟨old,Z,Y⟩:=st;obtain⟨xs,x,hq,hx⟩:=t;obtain⟨M,rv,p,hz⟩:=I.list hq;obtain⟨u,hu,ru⟩:=rv.get hx;have F1:=U e (by simp);have F2:=U it (by simp);obtain⟨V,f1,f2,D,J,f5⟩:=id F1;refine wpAny_pyNext_enum_item Z Y p.isList (x:=u) (by simpa using hu) W fun h' a1 a2 a3 a4 a5=>?_;have I1:Inv X pins σ H {s with heap:=h',toks:=s.toks+1}:=I.turned2 (t':=s.toks+1) (fun b o h1 h2 q=>a5 b o h1 h2 q) F1 F2;refine{_,rfl,wpAny_letOwnedTupleGo_enum a1 fun h2 e2 sb=>?_};have I2:Inv X pins σ H {s with heap:=h2,toks:=s.toks+1}:=I1.turned (t':=s.toks+1) (fun b o hb q=>sb.extBut b o hb q) V f1 D J f5;have fr:H s.heap.objs.size=none:=I.hok.fresh (aD _);have n1:s.heap.objs.size≠e:=(aR (aQ Z)).symm;have n2:s.heap.objs.size≠it:=by
   obtain⟨o,q,_⟩:=Y;exact (aR (aQ q)).symm
  have t2:=sb.extBut _ _ n1 a3;have I3:=I.track I2 (o:=.tup [.int i,x]) {(by show 2<=aB;decide),[.int i s.toks,u],.cons {_,rfl} (.cons ru .nil),_,t2,rfl,0,rfl};refine{.ref s.heap.objs.size,_,I3,rfl,{_,x,rfl,fr,fun ys hy=>by rw[I.list_inj hy hq];exact hx,rfl},{u,e2,a2.extBut sb.extBut (gj W)},fun b hb=>?_}
  rcases ar.mp hb with z|z
  ·rw[z,aO (gj n1)];exact V
  ·rw[aE.mp z,aO (gj n2)];exact F2.1
 done:=by
  intro X O hw g hc i pins s σ H E I U st t;subst O hw g;obtain⟨old,Z,Y⟩:=st;obtain⟨xs,hq,hx⟩:=t;obtain⟨M,rv,p,hz⟩:=I.list hq;obtain⟨V,f1,f2,D,J,f5⟩:=U it (by simp);have hl:=rv.length;exact wpAny_pyNext_enum_end (I.ok.hd hc) Z Y p.isList (by simp;omega) fun h' eb=>{rfl,I.turned (t':=s.toks) (fun b o hb e=>eb b o hb e) V f1 D J f5}
 self:=fun A i s Q E ⟨old,st,_⟩ h=>by
  have ty:s.TypeIs (.ref e) "enumerate":={_,st,rfl};refine xO ty F.slot_enumerate_iter (rE F.slot_enumerate_iter ty F.entry_enumerate_iter ?_ (F.args_enumerate_iter_1 _));show aX _ _ (ret (.ref e)) _ _ s;exact bK {_,rfl,"enumerate",_,ty,F.slot_enumerate_next.lookup,h}
end
section
variable{X:Cx}{elts:List cN}{x1:Nat}{tpos pos p:Pos}
def Lw(K:ae)(tl:TA):TI:=fun σ H R=>tl σ H fun vs H1=>∃a,vs=[.ref a]/\(∃xs,SqL K H1 a xs)/\R (Ite K a) H1
theorem JM{a:cN}{ta:TA}(U:Gl X "enumerate")(hm:X.mg "enumerate"=none)(ha:PA X [a] ta)(hs:cu [a] X.env=[(false,fg a X.env)]:=by rfl):PI X (.Tuple elts x1 tpos) (.Call (.Name "enumerate" p) [a] [] pos) (Lw X.K ta):=by
 intro pins s σ H R I h;refine Call_ (p8 I U hm boot_enumerate (gk (thn (ha pos pins s σ H _ I h) fun us Y ⟨vs,H1,Z,r1,M⟩=>?_) hs rfl));obtain⟨l,e,⟨xs,hq⟩,q⟩:=M;subst e;obtain⟨u,rfl,ru⟩:=vals1 r1
 cases ru;obtain⟨J,D,pl,t⟩:=Z.list hq;refine call_enumerate_list pl.isList fun h' e1 V e3 O=>?_;have W:Inv X pins σ H1 {Y with heap:=h'}:=Z.kept (t':=Y.toks) O;have ty:({Y with heap:=h'}:ak).TypeIs (.ref (Y.heap.objs.size+1)) "enumerate":={_,e1,rfl};refine xO ty F.slot_enumerate_iter (rE F.slot_enumerate_iter ty F.entry_enumerate_iter ?_ (F.args_enumerate_iter_1 _));show aX _ _ (ret (.ref (Y.heap.objs.size+1))) _ _ _;refine bK {_,rfl,"enumerate",_,ty,F.slot_enumerate_next.lookup,?_};refine{_,[_,_],_,_,H1,rfl,W,EE l _ Y.heap.objs.size (Nat.succ_ne_self _),{.none,e1,V},fun b hb=>?_,q}
 rcases ar.mp hb with z|z
 ·rw[z];exact Z.fpOk (gp _) (Z.hok.fresh (gp _))
 ·rw[aE.mp z];exact Z.fpOk (aD _) (Z.hok.fresh (aD _))
theorem EF{K:ae}{a:aa}{xs:List V}{n:Nat}{g:TG}{tc:TT}{te:TE}{σ:St}{H:Hp}{Q:VK}(Y:Nat->List V->Hp->Prop)(h0:Y 0 [] H)(hl:∀i ys H,i<=xs.length->Y i ys H->SqL K H a xs/\ys.length<aB)
  (hs:∀i x t ys H,xs[i]?=some x->Y i ys H->H t=none->g (.ref t) (cD n none++σ) (upd H t (.tup [.int i,x])) fun Z H2=>Z.drop n=σ/\tc Z H2 fun b O=>if b=true then te Z O fun y J=>Y (i+1) (ys++[y]) J else Y (i+1) ys O)
  (hd:∀ys H,Y xs.length ys H->∀p,H p=none->Q (.ref p) (upd H p (.lst ys))) :
  ∃W:Nat->Nat->List V->Hp->Prop,(∃m,W 0 m [] H)/\∀i m ys H,W i m ys H->ys.length<aB/\(((Ite K a).stop i H/\∀p,H p=none->Q (.ref p) (upd H p (.lst ys))) \/
   ((Ite K a).go i H/\∃N:List V->Hp->Prop,(∀U H',N U H'->∃I,I<m/\W (i+1) I U H')/\∀x H',(Ite K a).yld i H x H'->g x (cD n none++σ) H' fun Z H2=>Z.drop n=σ/\tc Z H2 fun b O=>
    if b=true then te Z O fun y J=>N (ys++[y]) J else N ys O)):=by
 refine{fun i m ys H=>m=xs.length-i/\i<=xs.length/\Y i ys H,{xs.length,by simp,bU _,h0},?_};rintro i m ys H ⟨rfl,hi,p⟩;obtain⟨q,z⟩:=hl i ys H hi p;refine{z,?_}
 by_cases M:i<xs.length
 ·refine .inr {{xs,xs[i],q,by simp[M]},Y (i+1),fun U H' D=>{xs.length-(i+1),by omega,rfl,M,D},fun x H' y=>?_};obtain⟨t,v,rfl,ht,hv,rfl⟩:=y;exact hs i v t ys H (hv xs q) p ht
 ·have e:i=xs.length:=by omega
  subst e;exact .inl {{xs,q,aD _},hd ys H p}
end
section
variable{prog:aN}{w:bL}{A:bZ}{E:af->ak->Prop}{s:ak}
theorem xQ{a:aa}{vs:List af}{n:Nat}{b:Bool}{P:Fin->ak->Prop}(ho:s.heap.get? a=some (dQ "list" vs.toArray n))(h2:vs.length<2)
  (h:P (.done (.ret .none)) {s with heap:=sortedHeap s.heap a vs vs.toArray}) :
  aX (bf prog w) A (iB.«list.sort» {[.ref a],[(mC "reverse",.bool b)]}) P E s:=by
 rw[list_sort_rev];have ha:a<s.heap.objs.size:=aQ ho;refine ax (listItems_at ho rfl ?_);refine ax (vE ho rfl ?_);obtain⟨e1,V⟩:∃e1,(s.heap.update a (dh fun _=>#[])).get? a=some (dQ "list" #[] e1):={_,get?_update_seq ho (fun _=>#[])};refine ax (zW V rfl ?_);refine ax (wpAny_newTuple ?_);refine ax (qA ?_);refine e7 ?_;have Y:(((s.heap.update a (dh fun _=>#[])).push (dQ "tuple" vs.toArray 0)).push (dQ "list" #[] 0)).get? a=some (dQ "list" #[] e1):=by
  rw[gs _ _ _ (by rw[wJ,gH];exact aR (iS ha)),gs _ _ _ (by rw[gH];exact aR ha)];exact V
 have one:((if b=true then (if b=true then (vs.toArray.zip vs.toArray).reverse else vs.toArray.zip vs.toArray).map (·.2) |>.reverse else (if b=true then (vs.toArray.zip vs.toArray).reverse else vs.toArray.zip vs.toArray).map (·.2)):Array af)=vs.toArray:=by
  match vs,h2 with
  | [],_=>cases b<;>simp
  | [v],_=>cases b<;>simp
 show aX (bf prog w) A _ P E {s with heap:=((s.heap.update a (dh fun _=>#[])).push (dQ "tuple" vs.toArray 0)).push (dQ "list" #[] 0)};dsimp only;have step:∀t:Sem Fin,aX (bf prog w) A t P E {s with heap:=((s.heap.update a (dh fun _=>#[])).push (dQ "tuple" vs.toArray 0)).push (dQ "list" #[] 0)} ->
   aX (bf prog w) A (if b=true then (do let _ <- Jg "list.sort.reverse";t) else t) P E {s with heap:=((s.heap.update a (dh fun _=>#[])).push (dQ "tuple" vs.toArray 0)).push (dQ "list" #[] 0)}:=by
  intro t ht
  split
  ·exact ax (BC ht)
  ·exact ht
 refine step _ ?_;have W:vs.toArray.size<2:=by simpa using h2
 rw[if_pos W,if_pos W];refine ax (bK ?_);rw[StateT.run_pure];refine ax (bK ?_);dsimp only;refine ax (zW Y rfl ?_);have Z:(if b=true then (Array.map (fun x=>x.snd) (arrOf (O6 general' (if b=true then (vs.toArray.zip vs.toArray).reverse else vs.toArray.zip vs.toArray) #[] 7 none))).reverse else Array.map (fun x=>x.snd) (arrOf (O6 general' (if b=true then (vs.toArray.zip vs.toArray).reverse else vs.toArray.zip vs.toArray) #[] 7 none)))=vs.toArray:=one;rw[Z];refine ax (vE Y rfl ?_ (hsz2:=by rw[mi];omega));simp only[bne_self_eq_false,tP,if_false];exact bK h
theorem BI{l:aa}{vs:List af}{b:Bool}{Q:af->ak->Prop}(hl:s.heap.IsList l vs.toArray)(h2:vs.length<2)
  (h:Q (.ref (s.heap.objs.size+1)) {s with heap:=Fn s.heap vs vs.toArray}) :
  aX (bf prog w) A (xu (.builtin "sorted") [.ref l] [(mC "reverse",.bool b)]) Q E s:=by
 refine Gr JN Gs Gu (args_sorted_rev _ _) ?_;unfold iB.«sorted»;refine ax (m:=NB "sorted" 1 1 _) (bK ?_);refine ax (collect_list hl ?_);refine ax (qA ?_);have hsz:((s.heap.push (dQ "list" #[] 0)).update s.heap.objs.size (dh (·++vs.toArray))).objs.size=s.heap.objs.size+1:=by
  rw[gH,wJ]
 have Z:(((s.heap.push (dQ "list" #[] 0)).update s.heap.objs.size (dh (·++vs.toArray))).push (dQ "list" vs.toArray 0)).get? (s.heap.objs.size+1)=some (dQ "list" vs.toArray 0):=by
  rw[<- hsz];exact cy _ rfl
 show aX _ _ _ _ _ {s with heap:=((s.heap.push (dQ "list" #[] 0)).update s.heap.objs.size (dh (·++vs.toArray))).push (dQ "list" vs.toArray 0)};rw[hsz];refine ax (e7 (Lx BJ {_,Z,rfl} Av (xQ Z h2 {_,rfl,?_}) (NC _ _)));exact bK {_,rfl,h}
end
section
variable{X:Cx}{e:cN}{t:TA}{p pos kp bp:Pos}{j:Nat}
end
section
variable{X:Cx}
def tTryE(T:aa->St->Hp->Prop)(tb:TS)(th:TH)(te:TS):TS:=fun D σ H=>tb {D with nx:=te D} σ H/\∀C Z H',Z.length=σ.length->T C Z H'->th C D Z H'
theorem JO{V Y:List cT}{h₀:jM}{hs:List jM}{pos:Pos}{tb te:TS}{th:TH}(T:aa->St->Hp->Prop)(hb:∀pins,PSs (X.tr pins T) V tb)(hh:PHs X (h₀::hs) th)(ho:PSs X Y te)
  (hst:X.stack=X.env::X.outer:=by rfl) (M:X.env.frame=some X.env.locals:=by rfl):PS X (.Try V (h₀::hs) Y [] pos) (tTryE T tb th te):=by
 intro pins s σ H D I h;obtain⟨h1,h2⟩:=h;refine wpAny_Try_except (eu (hb pins [] s σ H {D with nx:=te D} (I.tr T) h1) (fun f O q=>?_) (fun e O q=>?_))
 ·cases f with
  |next=>obtain⟨Z,H',J,q⟩:=q;exact ho pins O Z H' D J.untr q
  |ret v=>obtain⟨v,Z,H',J,r,q⟩:=q;exact⟨v,Z,H',J.untr,r,q⟩
  |brk=>obtain⟨Z,H',J,q⟩:=q;exact⟨Z,H',J.untr,q⟩
  |cont=>obtain⟨Z,H',J,q⟩:=q;exact⟨Z,H',J.untr,q⟩
 ·obtain⟨g,C,B,Z,H',rfl,J,fl,U,t⟩:=q;have z:FlD B (X.env::X.outer) g (.ref C) .none O.heap:=by
   rw[<- hst];exact fl
  refine yZ (by rw[J.ok.frames,hst]) M z fun h4 x4 s4=>?_;refine nY x4 fun h5 W s5=>?_;have J5:=J.landed W.1 U (s4.trans s5);rw[<- hst]at W;exact hh pins _ Z H' D g C B J5 W (xJ.land J W.1 U) (h2 C Z H' (by rw[J.len,I.len]) t)
end
abbrev Aw(A:bZ):bZ:={A with handled:=none}
structure qB(P:aN)(w:bL)(K:ae)(mg:Str->Option af)(base:cz)(CX:CXT)(k:Nat)(f:aa)(fd:bR)(ps:List Str)(sp:Sp):Prop where
 len:∀vs H Q E,sp vs H Q E->vs.length=ps.length
 run:∀(A:bZ) (outer:List Env) (s:ak) (H:Hp) (args:Args) (us:List af) (vs:List V) (Q:VK) (E:XK),cQ k (Aw A)->yP P w K mg base A outer s H->uH s fd args (ps.zip us)->cX vs us->sp vs H Q E ->
  p4 (bf P w) A (.call (.ref f) args) (CR CX outer P w H s Q E) s
theorem ND{CX:CXT}{P:aN}{w:bL}{K:ae}{mg:Str->Option af}{base:cz}{k:Nat}{f:aa}{name W:Str}{O:Arguments}{D:List cT}{Z:mh}{dV kV bI pm U ct oc:af}{an od:Option aa}
  {bF:Array (Option af)} {N ps:List Str} {sp:Sp} (lk:K.lookup f=some {oc,od,.func (fi name W O D Z dV kV bI pm an U ct),bF}) (bB:jz K U W=true) (S:bM N ps Z)
  (len:∀vs H Q E,sp vs H Q E->vs.length=ps.length)
  (ca:∀(A:bZ) (outer:List Env) (s:ak) (H:Hp) (vs:List V) (Q:VK) (E:XK),sp vs H Q E ->
   ∃t,PSs {tY CX P w K mg base N W Z f U A outer s H E with calm:=false} D t/\t {nx:=fun _ H'=>Q .non H',rt:=Q} (start N vs) H) :
  qB P w K mg base CX (k+1) f (fi name W O D Z dV kV bI pm an U ct) ps sp:=by
 refine{len,fun A outer s H args us vs Q E hr M hb r bH=>?_};have hl:=len _ _ _ _ bH;have KX:K.In s.heap:=M.mod.kin.keeps fun b o e=>(M.bs b o e).1;have bG:s.heap.NoLimit:=M.mod.nolimit.keeps fun b o e=>(M.bs b o e).1;have bW:∀y∈ps.zip us,Z.names.lookup y.1=some .local\/(Z.names.lookup y.1=some .cell/\((Ff (s.heap.objs.size+1) Z.names []).lookup y.1).isSome=true):=fun⟨n,v⟩ hy=>by
  rcases S.par n (qh hy).1 with q|q
  ·exact .inl q
  ·exact .inr {q,oQ _ _ _ (.inl q)}
 refine IS (A:=A) hr.depth (KX _ _ lk) rfl S.co S.gen rfl (Bq KX bB) (hb _ _ _ _ ?_);refine Br S.kind bW fun env he s1 x=>?_;subst he;refine{bG.keeps x.toInCall.keep,codeAny_func ?_};obtain⟨t,ht,hq⟩:=ca A outer s H vs Q E bH;have e1:yP P w K mg base (Aw A) outer s H:=⟨M.frames,M.mod,M.bs,M.bsz,M.funs,M.frf,M.hok,M.bare⟩;have Y:Inv (tY CX P w K mg base N W Z f U (Aw A) outer s H E) [] (start N vs) H s1:=x9 S rfl e1 hl r x;have I:Inv {tY CX P w K mg base N W Z f U A outer s H E with calm:=false} [] (start N vs) H s1:=
  {{Y.ok.mod,Y.ok.kind,Y.ok.glob,Y.ok.blt,Y.ok.above,Y.ok.inj,Y.ok.has,Y.ok.cab,fun z=>vw z,Y.ok.frames,Y.ok.stk,Y.ok.exf,Y.ok.bs,Y.ok.bsz,Y.ok.noex,Y.ok.exfs,Y.ok.funs,Y.ok.frf},Y.os,Y.bare,Y.base,Y.loc,Y.cell,Y.free,Y.freeC,Y.pin,Y.hok,Y.len}
 refine eu (ht [] s1 (start N vs) H _ I hq) (fun fl s' hs=>?_) fun e s' hs=>hs;have fin:∀{g:St} {H':Hp} {v:V} {u:af},Inv {tY CX P w K mg base N W Z f U A outer s H E with calm:=false} [] g H' s'->RelV v u->Q v H'->CE outer P w H s Q u s':=
  fun {g H' v u} J rv q=>⟨v,H',J.os,J.bare,J.base,J.hok,rv,q⟩
 cases fl with
 |ret u=>
  obtain⟨v,g,H',J,rv,q⟩:=hs;exact fin J rv q
 |next=>
  obtain⟨g,H',J,q⟩:=hs;exact fin (v:=V.non) (u:=Value.none) J rfl q
 |brk=>
  obtain⟨_,_,_,q⟩:=hs;exact cI q
 |cont=>
  obtain⟨_,_,_,q⟩:=hs;exact cI q
theorem Fun.okH{P:aN}{w:bL}{K:ae}{mg:Str->Option af}{base:cz}{x Z:Str}{st:cT}{f:aa}{fd:bR}{N ps:List Str}{k:Nat}{sp:Sp}(F:Fun K x Z st f fd)(S:bM N ps (aM st))(len:∀vs H Q E,sp vs H Q E->vs.length=ps.length)
  (W:∀(Y:af) (A:bZ) (outer:List Env) (s:ak) (H:Hp) (vs:List V) (Q:VK) (E:XK),sp vs H Q E ->
   ∃t,PSs {tY CX0 P w K mg base N Z (aM st) f Y A outer s H E with calm:=false} (ji st) t/\t {nx:=fun _ H'=>Q .non H',rt:=Q} (start N vs) H):qB P w K mg base CX0 (k+1) f fd ps sp:=by
 obtain⟨z,od,kV,M,pm,D,Y,ct,J,rfl,I,U⟩:=F.ex;exact ND I U S len fun A outer s H vs Q E O=>W Y A outer s H vs Q E O
theorem JP{X:Cx}{CX:CXT}{k:Nat}{f:aa}{fd:bR}{ps:List Str}{sp:Sp}{E:XK}{pins:List (aa×Obj)}{σ:St}{H:Hp}{s:ak}{Q:VK}{us:List af}{vs:List V}(F:qB X.prog X.w X.K X.mg X.base CX k f fd ps sp)(hr:cQ k (Aw X.A))(hb:Binds X.K fd ps [])(hx:lH CX X E)
  (I:Inv X pins σ H s) (r:cX vs us) (h:sp vs H Q E):aX (bf X.prog X.w) X.A (xu (.ref f) us) (EP X pins σ Q) X.xe s:=by
 have hl:(us++[]).length=ps.length:=by rw[cv,<- r.length];exact F.len _ _ _ _ h
 have Z:=hb s us I.kIn hl;rw[cv]at Z;refine wj (kK (F.run X.A X.stack s H {us,[]} us vs Q E hr I.env0 Z r h) fun r s' hq=>?_)
 cases r with
 |error e=>exact hx pins σ H s e s' I hq
 |ok fl=>
  cases fl with
  |ret u=>exact I.after hq
  |next=>exact cI hq
  |brk=>exact cI hq
  |cont=>exact cI hq
section
variable{X:Cx}{CX:CXT}{k:Nat}{ι:Type}{fm C:ι->aa}{fd:ι->bR}{ps:List Str}{sp:ι->Sp}{E:XK}{m:Str}{pos apos:Pos}{o:cN}{ta:TE}
def JQ(C:ι->aa)(sp:ι->Sp)(E:XK)(ta:TE):TE:=fun σ H Q=>ta σ H fun x H1=>∃a i,x=.ref a/\H1 a=some (XO a (C i))/\sp i [.ref a] H1 Q E
theorem EG{pl:Sem Bool}(V:PE X o ta)(c:∀i,xP X.K (C i))(hm:∀i,xw X.K (C i) m (fm i))(F:∀i,qB X.prog X.w X.K X.mg X.base CX k (fm i) (fd i) ps (sp i))(hr:cQ k (Aw X.A))(hb:∀i,Binds X.K (fd i) ps [])(hx:lH CX X E)
  (ht:fg (.Call (.Attribute o m apos) [] [] pos) X.env=(do
   let Y <- fg o X.env
   uC apos.atName
   let (f,first) <- pZ [Y] (lG Y m pl)
   xx pos f first (iN pos (cu [] X.env)) (mj pos (iM [] X.env))):=by rfl) :
  PE X (.Call (.Attribute o m apos) [] [] pos) (JQ C sp E ta):=by
 intro pins s σ H Q I h;refine iG (pl:=pl) (thn (V pins s σ H _ I h) fun u O ⟨x,H1,Z,W,a,i,ex,U,q⟩=>?_) ht;subst ex;obtain rfl:u=Value.ref a:=W;obtain⟨ox,J⟩:=(Nz Z.hok U).inst;refine Gm Z.kIn J (c i) (hm i).at_ (beq_iff_eq.mp (hm i).fn) ?_;exact A0 (first:=[.ref a]) Z.kIn (hm i).kp (JP (us:=[.ref a]) (vs:=[.ref a]) (F i) hr (hb i) hx Z (.cons rfl .nil) q)
end
end L2
namespace HT
open PySem PyProof.Rows
open PySem.SeqAt
open PySem.AutoSeq1 (wpAny_loadPart')
open PySem.MeetsSeq PySem.MeetsSeq2 PySem.MeetsSeq3
def NF(A:bZ)(s:ak)(x y:af)(g:Bool):Prop:=∀(prog:aN) (w:bL) (E:af->ak->Prop) (Q:af->ak->Prop),Q (.bool g) s->aX (bf prog w) A (p5 .Gt x y) Q E s
theorem JR(l b:aa)(x y:af)(xs ys:List af)(n m:Nat)(dd I:Option aa)(sl sm:Array (Option af))(g:Bool) :
  Meets (iB.«tuple.__gt__» {[.ref l,.ref b],[]})
   (fun A R s=>s.heap.get? l=some {cls:=.type "tuple",dict:=dd,data:=.seq (x::xs).toArray n,slots:=sl}/\s.heap.get? b=some {cls:=.type "tuple",dict:=I,data:=.seq (y::ys).toArray m,slots:=sm}/\EqAt A.in1 s x y false/\NF A.in1 s x y g/\R (.ok (.ret (.bool g))) s):=
 .of_wp fun prog w A R s h=>by
  obtain⟨hp,gg,d,tk,os⟩:=s;obtain⟨hl,hb,J,M,h⟩:=h;have z:=jd
  wp_walk using dy hl,dy hb,lL _ (fun rest b s'=>b.1=none/\s'=⟨hp,gg,d,tk,os⟩/\∃Z,rest=(x,y)::Z) _
  case turn=>
   rintro⟨H,D⟩ rest b s' ⟨V,rfl,Z,O⟩;injection O with U Y;injection U with hy hx;subst hy hx;refine ax (J prog w _ _ ?_);have W:∀(E:af->ak->Prop) (Q:af->ak->Prop),Q (.bool g) ⟨hp,gg,d,tk,os⟩->aX (bf prog w) A.in1 (p5 .Gt _ _) Q E ⟨hp,gg,d,tk,os⟩:=fun E Q q=>M prog w E Q q
   wp_walk using W
   exact{_,rfl,by simpa using h}
  case fin=>
   rintro⟨t,b2⟩ s' ⟨V,rfl,Z,O⟩
   cases O
  case h=>
   exact{rfl,rfl,xs.zip ys,by simp}
theorem gtAt_heads{A:bZ}{s:ak}{l b:aa}{x y:af}{xs ys:List af}{g:Bool}(hl:rY s.heap l (x::xs).toArray)(hb:rY s.heap b (y::ys).toArray)(hu:A.units<eK)(V:EqAt A.in1 s x y false)(W:NF A.in1 s x y g):NF A s (.ref l) (.ref b) g:=fun prog w E Q h=>by
 obtain⟨⟨c1,dd,t1,sl⟩,Y,rfl,n,rfl⟩:=id hl;obtain⟨⟨M,U,O,sm⟩,Z,rfl,m,rfl⟩:=id hb;exact kM (op:=.Gt) {_,Y,rfl} {_,Z,rfl} zV zg (yh _ _) (JR l b x y xs ys n m dd U sl sm g)
  {Y,Z,V,W,show Value.bool g≠Value.notImplemented/\Q (.bool g) s from{(fun x=>nomatch x),h}} hu
end HT
namespace L2
open PySem PySem.Spec PyProof.Rows
section
variable{X:Cx}
def rGtH:R2:=fun x y H Q=>∃a b Z kb ns ms W Y,x=.ref a/\y=.ref b/\H a=some (.tup (.ref Z::W))/\H b=some (.tup (.ref kb::Y))/\H Z=some (.tup (ns.map V.int))/\H kb=some (.tup (ms.map V.int))/\ns≠ms/\Q (.bl (HT.lexLt ms ns)) H
theorem NG(hu:X.A.units+1<eK):OpR X (cU .Gt) rGtH:=by
 intro pins s σ H x y v u Q I O D h;obtain⟨a,b,ka,kb,ns,ms,ra,rb,rfl,rfl,ha,hb,Y,Z,ne,q⟩:=h
 cases O
 cases D;obtain⟨bv,r1,t,_⟩:=I.tuple (SqT.of ha);obtain⟨V,r2,p2,_⟩:=I.tuple (SqT.of hb);obtain⟨k1,J,z,_⟩:=I.tuple (SqT.of Y);obtain⟨k2,s2,U,_⟩:=I.tuple (SqT.of Z);have i1:dN k1.toArray.toList ns:=intsAre_of J;have i2:dN k2.toArray.toList ms:=intsAre_of s2;have W:X.A.in1.units<eK:=hu;have e:=yi (A:=X.A.in1) I.hok W Y Z;rw[decide_eq_false ne]at e
 cases r1 with
 |cons M r1=>
  cases r2 with
  |cons g r2=>
   cases M
   cases g;exact HT.gtAt_heads t p2 (by omega) e (fun prog w E Q h=>HT.gt_tup z U i1 i2 W h) _ _ _ _ {.bl (HT.lexLt ms ns),H,I,rfl,q}
end
end L2
namespace L2
open PySem PySem.W PyProof.Rows HT
def iW(a b:List Int):Prop:=lexLt b a=false
theorem iW.refl(a:List Int):iW a a:=BE a
theorem iW.trans{a b c:List Int}(h1:iW a b)(h2:iW b c):iW a c:=by
 unfold iW at *
 cases e:lexLt c a with
 |false=>rfl
 |true=>
  cases f:lexLt a b with
  |true=>
   rw[lx_trans e f]at h2
   cases h2
  |false=>
   rw[sT f h1]at e;rw[e]at h2
   cases h2
theorem iW.of_lt{a b:List Int}(h:lexLt a b=true):iW a b:=lx_asym h
theorem Gv{a b c:List Int}(h:lexLt a b=true)(h2:iW b c):lexLt a c=true:=by
 cases e:lexLt a c with
 |true=>rfl
 |false=>
  have z:iW c a:=e;have y:=h2.trans z;unfold iW at y;rw[h]at y
  cases y
theorem iW.anti{a b:List Int}(h1:iW a b)(h2:iW b a):a=b:=sT h2 h1
def KR{Z:Type}(r:Nat->List Int)(n:Nat):KasT Z->(Z->Prop)->Prop
 |.ret a,Q=>Q a
 |.ask i j k,Q=>(i<n/\j<n/\i≠j)/\KR r n (k (lexLt (r i) (r j))) Q
section
variable{r:Nat->List Int}{n:Nat}
theorem KR.bind{Z Y:Type}{f:Z->KasT Y}{Q:Y->Prop}:∀{t:KasT Z},KR r n t (fun a=>KR r n (f a) Q)->KR r n (t.bind f) Q
 |.ret _,h=>h
 |.ask _ _ k,⟨h1,W⟩=>{h1,KR.bind W}
theorem KR.sound{Y:Type}{Z:Nat->Nat->(Bool->ak->Prop)->ak->Prop}{s:ak}{Q:Y->Prop}(hc:∀i j (C:Bool->ak->Prop),i<n->j<n->i≠j->C (lexLt (r i) (r j)) s->Z i j C s):∀{t:KasT Y},KR r n t Q->t.kasWp Z (fun a s'=>s'=s/\Q a) s
 |.ret _,h=>⟨rfl,h⟩
 |.ask i j k,⟨⟨h1,h2,W⟩,V⟩=>hc i j _ h1 h2 W (KR.sound hc V)
theorem JS{Z:Type}{a b:KasT Z}{Q:Z->Prop}(h:KR r n a Q):KR r n (if true=true then a else b) Q:=by
 rw[if_pos rfl];exact h
theorem JT{Z:Type}{a b:KasT Z}{Q:Z->Prop}(h:KR r n b Q):KR r n (if false=true then a else b) Q:=by
 rw[if_neg (by simp)];exact h
def Rk(r:Nat->List Int)(p:Array Nat)(i:Nat):List Int:=r (p.getD i 0)
def Pm(n:Nat)(p:Array Nat):Prop:=p.Perm (gx n).toArray
theorem Pm.size{p:Array Nat}(h:Pm n p):p.size=n:=by
 have:=h.size_eq;simpa using this
theorem Pm.lt{p:Array Nat}(h:Pm n p){i:Nat}(hi:i<n):p.getD i 0<n:=by
 have hs:i<p.size:=by rw[h.size];exact hi
 have e:p.getD i 0=p[i]:=by simp[pV,hs]
 rw[e];have m:p[i]∈p.toList:=by simp
 have z:=(iX.mp h).mem_iff.mp m;simpa using z
theorem Pm.two{p:Array Nat}(h:Pm n p){i j:Nat}(hi:i<n)(Z:j<n)(ne:i≠j):p.getD i 0<n/\p.getD j 0<n/\p.getD i 0≠p.getD j 0:=by
 refine{h.lt hi,h.lt Z,?_};have nd:p.toList.Nodup:=(iX.mp h).nodup_iff.mpr (by simpa using List.nodup_range);have h1:i<p.size:=by rw[h.size];exact hi
 have h2:j<p.size:=by rw[h.size];exact Z
 have e1:p.getD i 0=p.toList[i]'(by simpa using h1):=by simp[pV,h1]
 have Y:p.getD j 0=p.toList[j]'(by simpa using h2):=by simp[pV,h2]
 rw[e1,Y];intro z
 rcases Gw ne with c|c
 ·exact dC.mp nd i j _ _ c z
 ·exact dC.mp nd j i _ _ c z.symm
theorem rV(p:Array Nat)(i:Nat):p.getD i 0=(p[i]?).getD 0:=by
 by_cases h:i<p.size
 ·simp[pV,h]
 ·simp[pV,h]
theorem Pm.rev{p:Array Nat}(h:Pm n p)(i j:Nat):Pm n (O7 p i j):=(mirror_perm _ _ _ _).trans h
theorem Pm.bub{p:Array Nat}(h:Pm n p)(i j:Nat):Pm n (bubble p i j):=(bubble_perm _ _ _).trans h
theorem BK{p:Array Nat}{i j:Nat}(Z:j<=p.size)(k:Nat):Rk r (O7 p i j) k=if i<=k/\k<j then Rk r p (i+j-1-k) else Rk r p k:=by
 unfold Rk O7;rw[rV,getElem?_mirror_all Z,rV,rV]
 split<;>rfl
theorem Gz{p:Array Nat}{Z d:Nat}(hs:Z<p.size)(hd:d<=Z)(k:Nat):Rk r (bubble p Z d) k=if k=Z-d then Rk r p Z else if Z-d<k/\k<=Z then Rk r p (k-1) else Rk r p k:=by
 unfold Rk;rw[rV,getElem?_bubble hs d hd,rV,rV,rV]
 repeat' split
 all_goals rfl
theorem ue{p:Array Nat}{i j:Nat}(Y:j<=p.size)(Z:∀k,i<=k->k<j->Rk r p k=Rk r p (j-1))(k:Nat):Rk r (O7 p i j) k=Rk r p k:=by
 rw[BK Y]
 split
 ·rw[Z k (by omega) (by omega),Z _ (by omega) (by omega)]
 ·rfl
def Srt(r:Nat->List Int)(p:Array Nat)(m:Nat):Prop:=∀i j,i<=j->j<m->iW (Rk r p i) (Rk r p j)
def Fal(r:Nat->List Int)(p:Array Nat)(m:Nat):Prop:=∀i j,i<=j->j<m->iW (Rk r p j) (Rk r p i)
theorem Srt.one(p:Array Nat):Srt r p 1:=fun i j h1 h2=>by
 have:i=j:=by omega
 subst this;exact iW.refl _
theorem Srt.up{p:Array Nat}{x:Nat}(h1:1<=x)(h:Srt r p x)(l:iW (Rk r p (x-1)) (Rk r p x)):Srt r p (x+1):=fun i j Z Y=>by
 by_cases c:j<x
 ·exact h i j Z c
 ·have:j=x:=by omega
  subst this
  by_cases d:i=j
  ·subst d;exact iW.refl _
  ·exact (h i (j-1) (by omega) (by omega)).trans l
theorem Fal.up{p:Array Nat}{x:Nat}(h1:1<=x)(h:Fal r p x)(l:iW (Rk r p x) (Rk r p (x-1))):Fal r p (x+1):=fun i j Z Y=>by
 by_cases c:j<x
 ·exact h i j Z c
 ·have:j=x:=by omega
  subst this
  by_cases d:i=j
  ·subst d;exact iW.refl _
  ·exact l.trans (h i (j-1) (by omega) (by omega))
theorem Fal.eq{p Z:Array Nat}{m:Nat}(e:∀k,Rk r Z k=Rk r p k)(h:Fal r p m):Fal r Z m:=fun i j a b=>by
 rw[e,e];exact h i j a b
theorem BL{p:Array Nat}(hp:Pm n p){N:Nat}(Y:N<=n){Q:Nat->Prop}(h:∀q,1<=q->q<=N->Srt r p q->(q=N\/lexLt (Rk r p q) (Rk r p (q-1))=true)->Q q):∀(f m:Nat),1<=m->m+f=N->Srt r p m->KR r n (kas_asc p f m) Q
 |0,m,h1,Z,hs=>h m h1 (by omega) hs (.inl (by omega))
 |f+1,m,h1,Z,hs=>by
  refine{hp.two (by omega) (by omega) (by omega),?_}
  cases e:lexLt (r (p.getD m 0)) (r (p.getD (m-1) 0)) with
  |true=>exact h m h1 (by omega) hs (.inr e)
  |false=>exact BL hp Y h f (m+1) (by omega) (by omega) (hs.up h1 e)
theorem vF{N:Nat}(Y:N<=n){Q:Array Nat×Nat×Nat->Prop}{m0:Nat}(h:∀p m q,Pm n p->m0<=m->m<=N->Fal r p m->q+1<=m->(∀i,m-(q+1)<=i->i<m->Rk r p i=Rk r p (m-1))->Q (p,m,q)) :
  ∀(f:Nat) (p:Array Nat) (m q:Nat),Pm n p->1<=m->m0<=m->m+f=N->Fal r p m->q+1<=m->(∀i,m-(q+1)<=i->i<m->Rk r p i=Rk r p (m-1))->KR r n (kas_desc f p m q) Q
 |0,p,m,q,hp,h1,h0,W,hs,hq,Z=>h p m q hp h0 (by omega) hs hq Z
 |f+1,p,m,q,hp,h1,h0,W,hs,hq,Z=>by
  refine{hp.two (by omega) (by omega) (by omega),?_};have hsz:m<=p.size:=by rw[hp.size];omega
  cases e:lexLt (r (p.getD m 0)) (r (p.getD (m-1) 0)) with
  |true=>
   refine JS ?_;have up:=hs.up h1 (iW.of_lt e)
   by_cases c:q>0
   ·rw[if_pos c];exact vF Y h f _ (m+1) 0 (hp.rev _ _) (by omega) (by omega) (by omega) (up.eq (ue hsz Z)) (by omega) (fun i a b=>by congr 1;omega)
   ·rw[if_neg c];exact vF Y h f p (m+1) 0 hp (by omega) (by omega) (by omega) up (by omega) (fun i a b=>by congr 1;omega)
  |false=>
   refine JT ?_;refine{hp.two (by omega) (by omega) (by omega),?_}
   cases d:lexLt (r (p.getD (m-1) 0)) (r (p.getD m 0)) with
   |true=>
    refine JS ?_;exact h p m q hp h0 (by omega) hs hq Z
   |false=>
    refine JT ?_;have eq:Rk r p m=Rk r p (m-1):=sT e d;refine vF Y h f p (m+1) (q+1) hp (by omega) (by omega) (by omega) (hs.up h1 (by rw[eq];exact iW.refl _)) (by omega) (fun i a b=>?_);rw[show m+1-1=m by omega]
    by_cases c:i=m
    ·subst c;rfl
    ·rw[eq];exact Z i (by omega) (by omega)
theorem Ax{N:Nat}(Y:N<=n){Q:Nat×Array Nat->Prop}(h:∀m p,Pm n p->1<=m->m<=N->Srt r p m->Q (m,p)){p:Array Nat}{m:Nat}(hp:Pm n p)(h1:1<=m)(hm:m<=N)(hs:Fal r p m):KR r n (kas_tail3 m N p) Q:=by
 unfold kas_tail3;have hsz:m<=p.size:=by rw[hp.size];omega
 refine KR.bind (BL (hp.rev 0 m) Y (fun q a b c _=>?_) (N-m) m h1 (by omega) fun i j Z W=>?_)
 ·exact h q _ (hp.rev 0 m) a b c
 ·rw[BK hsz,BK hsz,if_pos (by omega),if_pos (by omega)];exact hs _ _ (by omega) (by omega)
theorem uO{N:Nat}(W:N<=n){Q:Nat×Array Nat->Prop}(h:∀m p,Pm n p->1<=m->m<=N->Srt r p m->Q (m,p)){p:Array Nat}{m:Nat}(hp:Pm n p)(hm:m+1<=N)(hs:Fal r p (m+1)):KR r n (kas_descPart m N p) Q:=by
 unfold kas_descPart;refine KR.bind (vF (m0:=m+1) W (fun V O q Z a b Y hq U=>?_) (N-(m+1)) p (m+1) 0 hp (by omega) (aD _) (by omega) hs (by omega) (fun i a b=>by congr 1;omega));dsimp only;have hsz:O<=V.size:=by rw[Z.size];omega
 by_cases c:q>0
 ·rw[if_pos c];exact Ax W h (Z.rev _ _) (by omega) b (Y.eq (ue hsz U))
 ·rw[if_neg c];exact Ax W h Z (by omega) b Y
theorem GH{Q:Nat×Array Nat->Prop}(h:∀m p,Pm n p->1<=m->m<=n->Srt r p m->Q (m,p)){p:Array Nat}(hp:Pm n p)(h1:1<=n):KR r n (kas_count n p) Q:=by
 unfold kas_count;refine KR.bind (BL hp (aD n) (fun m U V hs W=>?_) (n-1) 1 (aD _) (by omega) (Srt.one p))
 by_cases c:m=n
 ·rw[if_pos (by simpa using c)];exact h m p hp U V hs
 ·rw[if_neg (by simpa using c)];have Y:=W.resolve_left c
  by_cases g:m>1
  ·rw[if_pos g];refine{hp.two (by omega) (by omega) (by omega),?_}
   cases e:lexLt (r (p.getD 0 0)) (r (p.getD (m-1) 0)) with
   |true=>
    refine JS ?_;exact h m p hp U V hs
   |false=>
    refine JT ?_;have hsz:m<=p.size:=by rw[hp.size];omega
    have Z:∀k,0<=k->k<m->Rk r p k=Rk r p (m-1):=fun k _ hk=>by
     have a1:=hs 0 k (by omega) hk;have a2:=hs k (m-1) (by omega) (by omega);exact a2.anti (iW.trans (show iW (Rk r p (m-1)) (Rk r p 0) from e) a1)
    refine uO (aD n) h (hp.rev _ _) (by omega) (Fal.eq (ue hsz Z) ?_);refine Fal.up (by omega) (fun i j O M=>?_) (iW.of_lt Y);rw[Z i (by omega) (by omega),Z j (by omega) M];exact iW.refl _
  ·rw[if_neg g];have:m=1:=by omega
   subst this;exact uO (aD n) h hp (by omega) (Fal.up (aD _) (fun i j a b=>by
    have:i=j:=by omega
    subst this;exact iW.refl _) (iW.of_lt Y))
theorem wK{p:Array Nat}{k:Nat}(hp:Pm n p)(hk:k<n)(hs:Srt r p k){Q:Nat->Prop}(h:∀l,l<=k->(∀i,i<l->iW (Rk r p i) (Rk r p k))->(∀i,l<=i->i<k->lexLt (Rk r p k) (Rk r p i)=true)->Q l) :
  ∀(f l q:Nat),l<=q->q<=k->q-l<=f->(∀i,i<l->iW (Rk r p i) (Rk r p k))->(∀i,q<=i->i<k->lexLt (Rk r p k) (Rk r p i)=true)->KR r n (kas_place p k f l q) Q
 |0,l,q,a,b,c,lo,hi=>by
  have:l=q:=by omega
  subst this;exact h l b lo hi
 |f+1,l,q,a,b,c,lo,hi=>by
  unfold kas_place
  by_cases d:l≥q
  ·rw[if_pos d];have:l=q:=by omega
   subst this;exact h l b lo hi
  ·rw[if_neg d];refine{hp.two hk (by omega) (by omega),?_}
   cases e:lexLt (r (p.getD k 0)) (r (p.getD ((l+q)/2) 0)) with
   |true=>
    refine JS ?_;exact wK hp hk hs h f l _ (by omega) (by omega) (by omega) lo fun i h1 h2=>Gv e (hs _ _ h1 h2)
   |false=>
    refine JT ?_;exact wK hp hk hs h f _ q (by omega) (by omega) (by omega) (fun i h1=>(hs i ((l+q)/2) (by omega) (by omega)).trans e) hi
theorem GJ{Q:Array Nat->Prop}(h:∀p,Pm n p->Srt r p n->Q p):∀(f:Nat) (p:Array Nat) (k:Nat),Pm n p->k+f=n->Srt r p k->KR r n (kas_bin f p k) Q
 |0,p,k,hp,Y,hs=>h p hp (by rw[<- Y];exact hs)
 |f+1,p,k,hp,Y,hs=>by
  unfold kas_bin;refine KR.bind (wK hp (by omega) hs (fun l hl lo hi=>?_) k 0 k (bU _) (aD _) (by omega) (fun i h=>absurd h (by omega)) (fun i a b=>absurd b (by omega)));refine GJ h f _ (k+1) (hp.bub _ _) (by omega) fun i j W V=>?_;have Z:k<p.size:=by rw[hp.size];omega
  rw[Gz Z (by omega),Gz Z (by omega),show k-(k-l)=l by omega]
  repeat' split
  all_goals first
   |(exfalso;omega)
   |exact iW.refl _
   |exact lo _ (by omega)
   |exact iW.of_lt (hi _ (by omega) (by omega))
   |exact hs _ _ (by omega) (by omega)
theorem JU(h1:1<=n):KR r n (kas_sort n) (fun p=>Pm n p/\Srt r p n):=by
 unfold kas_sort;refine KR.bind (GH (fun m p hp Y Z hs=>?_) (Array.Perm.refl _) h1);dsimp only
 by_cases c:m<n
 ·rw[if_pos c];refine GJ (fun p hp hs=>⟨hp,hs⟩) _ p (max m 1) hp (by omega) ?_;rw[show max m 1=m by omega];exact hs
 ·rw[if_neg c];have:m=n:=by omega
  subst this;exact⟨hp,hs⟩
end
end L2
namespace L2
open PySem PySem.W PySem.Spec PyProof.Rows HT
section
variable{prog:aN}{w:bL}{A:bZ}{E:af->ak->Prop}{s:ak}
theorem vg{h0:cz}{a:aa}{vs:List af}{n:Nat}{b:Bool}{P:Fin->ak->Prop}{r:Nat->List Int}(ho:s.heap.get? a=some (dQ "list" vs.toArray n))(k0:∀c o,h0.get? c=some o->s.heap.get? c=some o)(H:h0.get? a=none)(h2:2<=vs.length)(V:vs.length<64)
  (hk:∀h':cz,(∀c o,h0.get? c=some o->h'.get? c=some o)->∀Q:SortKind->ak->Prop,Q (A7 false) {s with heap:=h'}->aX (bf prog w) A (keyKind' vs.toArray) Q E {s with heap:=h'})
  (hc:∀h':cz,(∀c o,h0.get? c=some o->h'.get? c=some o)->∀i j (C:Bool->ak->Prop),i<vs.length->j<vs.length->i≠j->C (lexLt (r i) (r j)) {s with heap:=h'}->kas_ask prog w A (A7 false) (lP b vs) i j C {s with heap:=h'})
  (h:∀p,Pm vs.length p->Srt r p vs.length->P (.done (.ret .none)) {s with heap:=sortedHeap s.heap a vs (uP (lP b (p.toList.map fun i=>(lP b vs).getD i Value.none)))}) :
  aX (bf prog w) A (iB.«list.sort» ⟨[.ref a],[(mC "reverse",.bool b)]⟩) P E s:=by
 rw[list_sort_rev];have ha:a<s.heap.objs.size:=aQ ho;refine ax (listItems_at ho rfl ?_);refine ax (vE ho rfl ?_);obtain⟨e1,O⟩:∃e1,(s.heap.update a (dh fun _=>#[])).get? a=some (dQ "list" #[] e1):=⟨_,get?_update_seq ho (fun _=>#[])⟩;refine ax (zW O rfl ?_);refine ax (wpAny_newTuple ?_);refine ax (qA ?_);refine e7 ?_;have M:(((s.heap.update a (dh fun _=>#[])).push (dQ "tuple" vs.toArray 0)).push (dQ "list" #[] 0)).get? a=some (dQ "list" #[] e1):=by
  rw[gs _ _ _ (by rw[wJ,gH];exact aR (iS ha)),gs _ _ _ (by rw[gH];exact aR ha)];exact O
 have Y:∀c o,h0.get? c=some o->(((s.heap.update a (dh fun _=>#[])).push (dQ "tuple" vs.toArray 0)).push (dQ "list" #[] 0)).get? c=some o:=fun c o e=>by
  have lt:c<s.heap.objs.size:=aQ (k0 c o e);have ne:c≠a:=fun z=>by
   rw[z,H]at e
   cases e
  rw[gs _ _ _ (by rw[wJ,gH];exact aR (iS lt)),gs _ _ _ (by rw[gH];exact aR lt),EH _ _ _ _ ne];exact k0 c o e
 show aX (bf prog w) A _ P E {s with heap:=((s.heap.update a (dh fun _=>#[])).push (dQ "tuple" vs.toArray 0)).push (dQ "list" #[] 0)};dsimp only;have step:∀t:Sem Fin,aX (bf prog w) A t P E {s with heap:=((s.heap.update a (dh fun _=>#[])).push (dQ "tuple" vs.toArray 0)).push (dQ "list" #[] 0)} ->
   aX (bf prog w) A (if b=true then (do let _ <- Jg "list.sort.reverse";t) else t) P E {s with heap:=((s.heap.update a (dh fun _=>#[])).push (dQ "tuple" vs.toArray 0)).push (dQ "list" #[] 0)}:=by
  intro t ht
  split
  ·exact ax (BC ht)
  ·exact ht
 refine step _ ?_;have U:¬vs.toArray.size<2:=by
  rw[aH];omega
 rw[if_neg U,if_neg U];refine ax (hk _ Y _ ?_);rw[kat_pairs b rfl];have g:=kat_len b vs;refine ax (eu (kat_run (ks:=lP b vs) (vs:=lP b vs) (κ:=A7 false) (Q:=fun Z s'=>∃p:Array Nat,arrOf Z=p.map (kas_item ((lP b vs).toArray.zip (lP b vs).toArray))/\failedOf Z=none/\s'={s with heap:=((s.heap.update a (dh fun _=>#[])).push (dQ "tuple" vs.toArray 0)).push (dQ "list" #[] 0)}/\Pm vs.length p/\Srt r p vs.length) (G:=fun p s'=>s'={s with heap:=((s.heap.update a (dh fun _=>#[])).push (dQ "tuple" vs.toArray 0)).push (dQ "list" #[] 0)}/\Pm vs.length p/\Srt r p vs.length) rfl (by rw[g];exact h2) (by rw[g];exact V) (fun p Z s' hp W I hg=>⟨p,W,I,hg⟩) (by
  rw[g];exact KR.sound (hc _ Y) (JU (by omega)))) ?_ fun _ _ e=>e)
 rintro⟨⟨⟩,Z⟩ s' ⟨p,W,I,rfl,J,D⟩;dsimp only;have out:=kat_snds (ks:=lP b vs) (vs:=lP b vs) rfl W;refine ax (zW M rfl ?_);rw[out,kat_outs];have lp:(lP b (p.toList.map fun i=>(lP b vs).getD i Value.none)).length<64:=by
  rw[kat_len,ao,fK,J.size];exact V
 refine ax (vE M rfl ?_ (hsz2:=by rw[aH,mi];omega));rw[I];simp only[bne_self_eq_false,tP,if_false];exact bK (h p J D)
theorem sorted_N{l:aa}{vs:List af}{b:Bool}{Q:af->ak->Prop}{r:Nat->List Int}(hl:s.heap.IsList l vs.toArray)(h2:2<=vs.length)(W:vs.length<64)
  (hk:∀(Z:bZ) (E:af->ak->Prop) (h':cz),Z.units<=A.units+2->(∀c o,s.heap.get? c=some o->h'.get? c=some o)->∀Q:SortKind->ak->Prop,Q (A7 false) {s with heap:=h'}->aX (bf prog w) Z (keyKind' vs.toArray) Q E {s with heap:=h'})
  (hc:∀(Z:bZ) (h':cz),Z.units<=A.units+2->(∀c o,s.heap.get? c=some o->h'.get? c=some o)->∀i j (C:Bool->ak->Prop),i<vs.length->j<vs.length->i≠j->C (lexLt (r i) (r j)) {s with heap:=h'}->kas_ask prog w Z (A7 false) (lP b vs) i j C {s with heap:=h'})
  (h:∀p,Pm vs.length p->Srt r p vs.length->Q (.ref (s.heap.objs.size+1)) {s with heap:=Fn s.heap vs (uP (lP b (p.toList.map fun i=>(lP b vs).getD i Value.none)))}) :
  aX (bf prog w) A (xu (.builtin "sorted") [.ref l] [(mC "reverse",.bool b)]) Q E s:=by
 refine Gr JN Gs Gu (args_sorted_rev _ _) ?_;unfold iB.«sorted»;refine ax (m:=NB "sorted" 1 1 _) (bK ?_);refine ax (collect_list hl ?_);refine ax (qA ?_);have hsz:((s.heap.push (dQ "list" #[] 0)).update s.heap.objs.size (dh (·++vs.toArray))).objs.size=s.heap.objs.size+1:=by
  rw[gH,wJ]
 have Y:(((s.heap.push (dQ "list" #[] 0)).update s.heap.objs.size (dh (·++vs.toArray))).push (dQ "list" vs.toArray 0)).get? (s.heap.objs.size+1)=some (dQ "list" vs.toArray 0):=by
  rw[<- hsz];exact cy _ rfl
 have k0:∀c o,s.heap.get? c=some o->(((s.heap.push (dQ "list" #[] 0)).update s.heap.objs.size (dh (·++vs.toArray))).push (dQ "list" vs.toArray 0)).get? c=some o:=fun c o e=>by
  have lt:c<s.heap.objs.size:=aQ e;rw[gs _ _ _ (by rw[hsz];exact aR (iS lt)),EH _ _ _ _ (aR lt),gs _ _ _ (aR lt)];exact e
 have V:s.heap.get? (s.heap.objs.size+1)=none:=by
  cases e:s.heap.get? (s.heap.objs.size+1) with
  |none=>rfl
  |some o=>
   have:=aQ e;exact absurd this (Nat.not_lt.mpr (gp _))
 show aX _ _ _ _ _ {s with heap:=((s.heap.push (dQ "list" #[] 0)).update s.heap.objs.size (dh (·++vs.toArray))).push (dQ "list" vs.toArray 0)};rw[hsz];refine ax (e7 (Lx BJ {_,Y,rfl} Av (vg (h0:=s.heap) (r:=r) Y k0 V h2 W (fun h' k Q q=>hk _ _ h' (aD _) k Q q) (fun h' k i j C hi U ne q=>hc _ h' (aD _) k i j C hi U ne q) fun p a1 a2=>{_,rfl,?_}) (NC _ _)));exact bK {_,rfl,h p a1 a2}
end
def BM(H:Hp)(z:V×List Int):Prop:=∃a k Z,z.1=.ref a/\H a=some (.tup (.ref k::Z))/\H k=some (.tup (z.2.map V.int))
theorem uf:∀{xs:List V} {Z:List af},cX xs Z->∀(i:Nat),i<xs.length->∃v,Z.getD i Value.none=v/\∃x,xs[i]?=some x/\RelV x v
 |_,_,.nil,i,h=>absurd h (by simp)
 |_,_,.cons a b,0,h=>{_,rfl,_,rfl,a}
 |_,_,.cons a b,i+1,h=>by
  obtain⟨v,e,x,h1,h2⟩:=uf b i (by simpa using h);exact{v,by simpa using e,x,by simpa using h1,h2}
theorem yl{xs:List V}{Z:List af}(h:cX xs Z)(d:V):∀(is:List Nat),(∀i∈is,i<xs.length)->cX (is.map fun i=>(xs.getD i d)) (is.map fun i=>Z.getD i Value.none)
 | [],_=>.nil
 |i::is,hb=>by
  obtain⟨v,e,x,h1,h2⟩:=uf h i (hb i aC);refine .cons ?_ (yl h d is fun j Y=>hb j (ah _ Y));show RelV (xs.getD i d) (Z.getD i Value.none);rw[e,dU,h1];exact h2
theorem BN{Z:Type}(l:List Z)(d:Z):(gx l.length).map (fun i=>l.getD i d)=l:=by
 apply Gj;intro i;rw[cC]
 by_cases h:i<l.length
 ·rw[List.getElem?_range h,GK,dU,aI h];rfl
 ·rw[gJ (by simpa using h),gJ (by omega)];rfl
def pX:V×List Int:=(.non,[])
theorem GV{zs:List (V×List Int)}(nd:(zs.map (·.2)).Nodup){p:Array Nat}(hp:Pm zs.length p)(hs:Srt (fun i=>(zs.reverse.getD i pX).2) p zs.length) :
  ((p.toList.map fun i=>zs.reverse.getD i pX).reverse).Perm zs/\((p.toList.map fun i=>zs.reverse.getD i pX).reverse).Pairwise (fun a b=>HT.lexLt b.2 a.2=true):=by
 have pl:p.toList.Perm (gx zs.length):=by simpa using iX.mp hp
 have pm:(p.toList.map fun i=>zs.reverse.getD i pX).Perm zs:=by
  refine (pl.map _).trans ?_;have e:=BN zs.reverse pX;rw[jj]at e;rw[e];exact uQ _
 refine{(uQ _).trans pm,List.pairwise_reverse.mpr (dC.mpr fun i j hi Y Z=>?_)};have W:((p.toList.map fun i=>zs.reverse.getD i pX).map (·.2)).Nodup:=(pm.map _).nodup_iff.mpr nd;have li:i<zs.length:=by
  have:=pm.length_eq;omega
 have U:j<zs.length:=by
  have:=pm.length_eq;omega
 have at_:∀k (h:k<(p.toList.map fun i=>zs.reverse.getD i pX).length),(p.toList.map fun i=>zs.reverse.getD i pX)[k].2=Rk (fun i=>(zs.reverse.getD i pX).2) p k:=fun k h=>by
  have hk:k<p.size:=by simpa using h
  unfold Rk;simp[pV,hk]
 have le:=hs i j (jR Z) U;have ne:=dC.mp W i j (by simpa using hi) (by simpa using Y) Z;rw[at_ i hi,at_ j Y];refine lx_of_not le fun z=>ne ((jf _).trans (Eq.trans ?_ (jf _).symm));rw[at_ i hi,at_ j Y];exact z.symm
section
variable{X:Cx}{e:cN}{t:TA}{p pos kp bp:Pos}{j:Nat}
def NH(t:TA):TE:=fun σ H Q=>t σ H fun vs H1=>∃(p:aa) (zs:List (V×List Int)),vs=[.ref p]/\H1 p=some (.lst (zs.map (·.1)))/\(∀z∈zs,BM H1 z)/\(zs.map (·.2)).Nodup/\zs.length<64 /\
 ∀(l:aa) (Z:List (V×List Int)),H1 l=none->Z.Perm zs->Z.Pairwise (fun a b=>HT.lexLt b.2 a.2=true)->Q (.ref l) (upd H1 l (.lst (Z.map (·.1))))
theorem ym{s:ak}{H:Hp}{P:aN}{w:bL}(ok:HOk P w H s.heap):∀{zs:List (V×List Int)} {Z:List af},cX (zs.map (·.1)) Z->(∀z∈zs,BM H z)->∃fs,KatTups s.heap Z fs/\fs.length=Z.length/\∀f∈fs,∃k o,f=.ref k/\s.heap.get? k=some o/\o.cls=.type "tuple"
 | [],_,r,_=>by
  cases r;exact{[],KatTups.nil,rfl,fun f Y=>by cases Y}
 |z::zs,_,r,U=>by
  cases r with
  |cons a b=>
   obtain⟨fs,h1,h2,D⟩:=ym ok b fun z W=>U z (ah _ W);obtain⟨t,k,ra,e1,O,e3⟩:=U z aC;have a:RelV z.1 _:=a;rw[e1]at a
   cases a;obtain⟨us,r1,g,g1,c1,n1,d1⟩:=iO ok O;obtain⟨ws,r2,M,I,J,n2,d2⟩:=iO ok e3
   cases r1 with
   |cons a1 b1=>
    cases a1;refine{.ref k::fs,KatTups.cons g1 c1 d1 rfl h1,by rw[aT,aT,h2],fun f Y=>?_}
    rcases ar.mp Y with y|y
    ·exact⟨k,M,y,I,J⟩
    ·exact D f y
theorem GX{ke:cN}(hu:X.A.units+5<eK)(hg:Gl X "sorted")(hm:X.mg "sorted"=none)(ha:PA X [e] t)(hk:PE X ke (tC (.bl true)))(he:iN pos (cu [e] X.env)=[(false,fg e X.env)]:=by rfl)
  (el:(mj pos (iM [{some "reverse",ke,kp}] X.env)).all (·.1.isSome)=true:=by rfl) (ei:(mj pos (iM [{some "reverse",ke,kp}] X.env)).any (·.1.isNone)=false:=by rfl)
  (eh:(mj pos (iM [{some "reverse",ke,kp}] X.env)).filterMap (·.1)=[mC "reverse"]:=by rfl) :
  PE X (.Call (.Name "sorted" p) [e] [{some "reverse",ke,kp}] pos) (NH t):=by
 intro pins s σ H Q I h;refine gQ (p8 I hg hm boot_sorted ?_);refine callWith_kw (thn (ha pos pins s σ H _ I h) fun us s1 ⟨vs,H1,I1,r1,q1⟩=>?_) (by rw[he];rfl) (by rw[he];rfl) el ei;obtain⟨l,zs,rfl,hl,hz,nd,dV,q⟩:=q1;obtain⟨u,rfl,ru⟩:=vals1 r1
 cases ru;refine kws_cons (thn (hk pins s1 σ H1 (fun v H2=>v=.bl true/\H2=H1) I1 (show _/\_ from⟨rfl,rfl⟩)) fun v s2 ej=>kws_nil ?_);obtain⟨y,H2,O,r2,e1,e2⟩:=ej;subst e1 e2
 cases r2;rw[eh];obtain⟨Z,n,rv,ho,ec⟩:=O.lst hl;have Y:=rv.length;rw[ao]at Y;show aX _ _ (xu (.builtin "sorted") [.ref l] [(mC "reverse",.bool true)]) _ _ _
 by_cases c:Z.length<2
 ·refine BI (l:=l) (vs:=Z) {_,ho,rfl,n,rfl} c ?_;obtain⟨ep,U⟩:=sortedAll_at s2.heap Z Z.toArray;have two:2<=aB:=by decide
  have z:=O.laid (a:=s2.heap.objs.size+1) (o:=.lst (zs.map (·.1))) (t':=s2.toks) (fun _ _=>sortedAll_old) (gp _) (h':=Fn s2.heap Z Z.toArray) {by rw[ao];omega,Z,ep,rv,U};refine{.ref (s2.heap.objs.size+1),_,z,rfl,q _ zs (O.hok.fresh (gp _)) (iK _) ?_}
  match zs,Y with
  | [],_=>exact List.Pairwise.nil
  | [_],_=>exact ib _ _
  |_::_::_,Y=>exact absurd c (by rw[<- Y];simp)
 ·have ed:∀{α:Type} (l:List α),lP true l=l.reverse:=fun l=>rfl;refine sorted_N (l:=l) (vs:=Z) (r:=fun i=>(zs.reverse.getD i pX).2) {_,ho,rfl,n,rfl} (by omega) (by omega) (fun A' E' h' hA k Q' q'=>?_) (fun A' h' hA k i j C hi hj ne q'=>?_) fun p hp hs=>?_
  ·have I3:=(O.kept (t':=s2.toks) k).hok;obtain⟨fs,h1,h2,h3⟩:=ym (s:={s2 with heap:=h'}) I3 rv hz;refine kat_kind (T:=.type "tuple") h1 (by omega) (fun v hv=>?_) (by rfl) ?_
   ·obtain⟨kk,o,rfl,g,cl⟩:=h3 v hv;rw[<- cl];exact (Looks.ld g).andThen .now
   ·exact q'
  ·have I3:=(O.kept (t':=s2.toks) k).hok;have D:=rv.reverse;rw[<- vG]at D;have at_:∀m,m<Z.length->∃(a kk:aa) (us ws:List af),Z.reverse.getD m Value.none=.ref a/\rY h' a (.ref kk::us).toArray/\rY h' kk ws.toArray/\dN ws (zs.reverse.getD m pX).2/\H2 kk=some (.tup ((zs.reverse.getD m pX).2.map V.int)):=fun m hm=>by
    have W:m<zs.reverse.length:=by rw[jj];omega
    obtain⟨v,ev,x,hx,rx⟩:=uf D m (by rw[ao];exact W);rw[cC,aI W]at hx
    cases hx;have ez:zs.reverse.getD m pX=zs.reverse[m]:=by rw[dU,aI W];rfl
    obtain⟨ad,kk,ra,e1,e2,e3⟩:=hz _ (List.mem_reverse.mp (kH W));have rx:RelV (zs.reverse[m]).1 v:=rx;rw[e1]at rx
    cases rx;obtain⟨us,r1,t1⟩:=iO (s:={s2 with heap:=h'}) I3 e2;obtain⟨ws,r2,t2⟩:=iO (s:={s2 with heap:=h'}) I3 e3
    cases r1 with
    |cons a1 b1=>
     cases a1;exact{ad,kk,_,ws,ev,t1,t2,by rw[ez];exact intsAre_of r2,by rw[ez];exact e3}
   obtain⟨a1,k1,dL,dG,g1,t1,u1,i1,m1⟩:=at_ i hi;obtain⟨a2,k2,ea,eb,g2,t2,u2,i2,m2⟩:=at_ j hj;have ee:(zs.reverse.getD i pX).2≠(zs.reverse.getD j pX).2:=by
    have J:((zs.reverse).map (·.2)).Nodup:=((uQ zs).map _).nodup_iff.mpr nd;have h1:i<zs.reverse.length:=by rw[jj];omega
    have h2:j<zs.reverse.length:=by rw[jj];omega
    rw[dU,aI h1,dU,aI h2];show (zs.reverse[i]).2≠(zs.reverse[j]).2
    rcases Gw ne with c|c
    ·exact fun z=>dC.mp J i j (by simpa using h1) (by simpa using h2) c ((jf _).trans (z.trans (jf _).symm))
    ·exact fun z=>dC.mp J j i (by simpa using h2) (by simpa using h1) c ((jf _).trans (z.symm.trans (jf _).symm))
   have eq:=yi (s:={s2 with heap:=h'}) (A:=A') I3 (by omega) m1 m2;rw[decide_eq_false ee]at eq;show aX _ A' (keyLt' (A7 false) (Z.reverse.getD i Value.none) (Z.reverse.getD j Value.none)) C _ _;rw[g1,g2];obtain⟨o1,y1,_,n1,d1⟩:=id t1;obtain⟨o2,y2,_,n2,d2⟩:=id t2;refine kat_lt (s:={s2 with heap:=h'}) y1 d1 y2 d2 (kat_cons (eq _ _ _ _ (kat_no (kat_one _ _ (HT.lt_tupInts u1 u2 i1 i2 (by omega) q')))))
  ·have ek:Pm zs.length p:=by rw[Y];exact hp
   obtain⟨M,ef⟩:=GV nd ek (by rw[Y];exact hs);have D:=rv.reverse;rw[<- vG]at D;have vo:=(yl D V.non p.toList fun i hi=>by
    rw[ao,jj];have:=(iX.mp ek).mem_iff.mp hi;simpa using this).reverse
   have ev:(p.toList.map fun i=>(zs.reverse.map (·.1)).getD i V.non).reverse=((p.toList.map fun i=>zs.reverse.getD i pX).reverse).map (·.1):=by
    refine Eq.trans ?_ vG.symm;rw[dI]
    congr 1
    refine gC fun i _=>?_;show (zs.reverse.map (·.1)).getD i V.non=(zs.reverse.getD i pX).1;rw[dU,cC,dU]
    cases zs.reverse[i]?<;>rfl
   rw[ev]at vo;obtain⟨ep,U⟩:=sortedAll_at s2.heap Z (uP (p.toList.map fun i=>Z.reverse.getD i Value.none).reverse);have z:=O.laid (a:=s2.heap.objs.size+1) (o:=.lst (((p.toList.map fun i=>zs.reverse.getD i pX).reverse).map (·.1))) (t':=s2.toks) (fun _ _=>sortedAll_old) (gp _) (h':=Fn s2.heap Z (uP (p.toList.map fun i=>Z.reverse.getD i Value.none).reverse)) ⟨by
    rw[ao,M.length_eq];have:64<=aB:=by decide
    omega,_,ep,vo,U⟩
   exact{.ref (s2.heap.objs.size+1),_,z,rfl,q _ _ (O.hok.fresh (gp _)) M ef}
end
end L2
namespace PySem
open SeqAt MeetsSeq MeetsSeq2 MeetsSeq3 SeqRoads2
section
variable{prog:aN}{w:bL}{A:bZ}{s:ak}
variable{K:Type}[DecidableEq K]{knd:KeyKind prog w K}
end
end PySem
namespace L2
open PySem PySem.Spec PyProof.Rows PySem.SeqAt
section
variable{X:Cx}
theorem yn:MtR X "list.clear" (fun x vs H Q=>∃l xs,x=.ref l/\vs=[]/\H l=some (.lst xs)/\Q .non (upd H l (.lst []))):=by
 intro pins s σ H x vs v us Q I W V h;obtain⟨l,xs,rfl,rfl,Y,q⟩:=h
 cases W
 cases V;obtain⟨z,Z,n,r,hl,e⟩:=I.lstM Y;refine oS F.slot_list_clear {_,e,rfl} F.entry_list_clear (F.args_list_clear_1 _) (AutoSeq1.list_clear_list_0 l Z.toArray n (by rw[aH];omega)) {e,?_};exact{.non,_,I.lset (its':=[]) Y e (by simp) .nil (bU _),rfl,q}
end
end L2
namespace L2
open PySem PySem.Spec PyProof.Rows
section
variable{X:Cx}
theorem zh(hu:X.A.units+50<eK):OpR X (cU .NotEq) (fun x y H Q=>∃p q xs,x=.ref p/\y=.ref q/\H p=some (.lst xs)/\H q=some (.lst [])/\Q (.bl (!xs.isEmpty)) H):=by
 intro pins s σ H x y v u Q I Z Y h;obtain⟨p,q,xs,rfl,rfl,h1,h2,k⟩:=h
 cases xs with
 |nil=>exact Gi hu pins s σ H _ _ v u Q I Z Y {1,p,q,by omega,rfl,rfl,.inr (.inl {p,q,[],[],rfl,rfl,h1,h2,.nil}),k}
 |cons a xs=>
  cases Z
  cases Y;obtain⟨us,r1,i1⟩:=iD I.hok h1;obtain⟨vs,r2,i2⟩:=iD I.hok h2
  cases r2;have hl:=r1.length;exact SeqAt.RcNeAt.lists_lengths i1 i2 (by
   cases us with
   |nil=>cases hl
   |cons b us=>simp) (by omega) X.prog X.w _ _ {.bl true,H,I,rfl,k}
end
section
variable{X:Cx}
end
theorem GY{n m:Nat}{g:TG}{tc:TT}{te:TE}{σ:St}{H:Hp}{Q:VK}(Y:Nat->List V->Hp->Prop)(h0:Y 0 [] H)(hl:∀i ys H,i<=m->Y i ys H->ys.length<aB)
  (hs:∀i ys H,i<m->Y i ys H->g (.int (0+i)) (cD n none++σ) H fun Z H2=>Z.drop n=σ/\tc Z H2 fun b M=>if b=true then te Z M fun y J=>Y (i+1) (ys++[y]) J else Y (i+1) ys M)
  (hd:∀ys H,Y m ys H->∀p,H p=none->Q (.ref p) (upd H p (.lst ys))) :
  ∃W:Nat->Nat->List V->Hp->Prop,(∃k,W 0 k [] H)/\∀i k ys H,W i k ys H->ys.length<aB/\(((Itr 0 m).stop i H/\∀p,H p=none->Q (.ref p) (upd H p (.lst ys))) \/
   ((Itr 0 m).go i H/\∃N:List V->Hp->Prop,(∀U H',N U H'->∃I,I<k/\W (i+1) I U H')/\∀x H',(Itr 0 m).yld i H x H'->g x (cD n none++σ) H' fun Z H2=>Z.drop n=σ/\tc Z H2 fun b M=>
    if b=true then te Z M fun y J=>N (ys++[y]) J else N ys M)):=by
 refine{fun i k ys H=>k=m-i/\i<=m/\Y i ys H,{m,by simp,bU _,h0},?_};rintro i k ys H ⟨rfl,hi,O⟩;refine{hl i ys H hi O,?_}
 by_cases lt:i<m
 ·refine .inr {lt,Y (i+1),fun U H' D=>{m-(i+1),by omega,rfl,lt,D},fun x H' y=>?_};obtain⟨e,y⟩:=y;subst e y;exact hs i ys _ lt O
 ·have e:i=m:=by omega
  subst e;exact .inl {aD _,hd ys H O}
end L2
namespace My
open PySem L2
def top(i:Nat):cT:=PySem.Challenge.pw_momentloom_k42_keepers_used.main.body.getD i (.Pass {0,0,0,0})
abbrev nj:cT:=eU (top 3) 0
abbrev oW:cT:=eU (top 4) 0
abbrev qC:cT:=eU (top 5) 0
abbrev rW:cT:=eU (top 6) 0
abbrev qD:cT:=eU (top 7) 0
abbrev qE:cT:=eU (top 8) 0
abbrev n6:cT:=top 12
abbrev oX:cT:=eU (top 13) 0
abbrev jC:cT:=eU (top 14) 0
abbrev iY:cT:=eU (top 14) 1
abbrev jZ:cT:=top 15
abbrev lQ:cT:=top 17
abbrev gD:cT:=top 18
abbrev gL:cT:=top 19
abbrev eB:cT:=top 20
abbrev oY:cT:=eU (top 22) 0
abbrev ju:cT:=eU (top 22) 1
abbrev fj:cT:=eU (top 22) 2
abbrev eV:cT:=eU (top 22) 3
abbrev gN:cT:=eU (top 22) 4
abbrev zi:cT:=top 23
abbrev oZ:cT:=top 24
abbrev iu:cT:=top 25
abbrev mQ:cT:=top 26
abbrev iP:cT:=top 27
abbrev oa:cT:=top 28
abbrev og:cT:=top 29
abbrev oh:cT:=top 30
abbrev oj:cT:=top 31
abbrev om:cT:=top 32
abbrev o8:cT:=top 34
abbrev qF:cT:=top 35
abbrev qG:cT:=eU (top 37) 0
abbrev gc:cT:=top 38
abbrev nv:cT:=eU (top 39) 0
abbrev gR:cT:=eU (top 39) 1
abbrev fH:cT:=eU (top 39) 2
abbrev iw:cT:=eU (top 39) 3
abbrev fq:cT:=top 40
abbrev lS:cT:=top 41
abbrev vH:cT:=top 42
abbrev ny:cT:=eU (top 44) 0
abbrev jD:cT:=eU (top 44) 1
abbrev hU:cT:=eU (top 44) 2
abbrev jE:cT:=eU (top 44) 3
abbrev hV:cT:=eU (top 44) 4
abbrev eW:cT:=eU (top 44) 5
abbrev wL:cT:=top 46
abbrev mR:cT:=top 48
abbrev mT:cT:=top 49
abbrev dY:cT:=top 50
abbrev fX:cT:=top 51
abbrev gS:cT:=top 52
abbrev jv:cT:=top 53
abbrev lT:cT:=top 54
abbrev lU:cT:=top 55
abbrev o9:cT:=top 56
abbrev kj:cT:=top 57
abbrev hW:cT:=top 58
abbrev lV:cT:=top 59
abbrev km:cT:=top 60
abbrev kX:cT:=top 61
abbrev pf:cT:=top 62
abbrev iy:cT:=top 63
abbrev pj:cT:=top 64
abbrev CA:cT:=top 65
structure Df(K:ae)(mg:Str->Option af)(x:Str)(st:cT)(ps:List Str)(f:aa)(fd:bR):Prop where
 F:Fun K x x st f fd
 b:Binds K fd ps []
 m:mg x=some (.ref f)
structure Bl(mg:Str->Option af):Prop where
 len:mg "len"=none
 abs:mg "abs"=none
 isi:mg "isinstance"=none
 list:mg "list"=none
 tuple:mg "tuple"=none
 str:mg "str"=none
 int:mg "int"=none
 bool:mg "bool"=none
 range:mg "range"=none
 max:mg "max"=none
 dict:mg "dict"=none
theorem boot_abs:eQ "abs"=some (.builtin "abs"):=by decide +kernel
theorem qH:eQ "isinstance"=some (.builtin "isinstance"):=by decide +kernel
theorem boot_list:eQ "list"=some (.type "list"):=by decide +kernel
theorem boot_tuple:eQ "tuple"=some (.type "tuple"):=by decide +kernel
theorem boot_int:eQ "int"=some (.type "int"):=by decide +kernel
theorem boot_max:eQ "max"=some (.builtin "max"):=by decide +kernel
theorem boot_dict:eQ "dict"=some (.type "dict"):=by decide +kernel
def But(p:aa)(H H':Hp):Prop:=∀b o,H b=some o->b≠p->H' b=some o
theorem But.refl(p:aa)(H:Hp):But p H H:=fun _ _ e _=>e
theorem But.trans{p:aa}{H H1 H2:Hp}(a:But p H H1)(b:But p H1 H2):But p H H2:=fun c o e n=>b c o (a c o e n) n
theorem But.upd(p:aa)(H:Hp)(o:HO):But p H (upd H p o):=fun b u e n=>by rw[aO n];exact e
theorem But.same{p:aa}{H H1 H2:Hp}(a:But p H H1)(b:aV H1 H2):But p H H2:=fun c o e n=>b c o (a c o e n)
theorem aF{H:Hp}{p:aa}(h:H p=none)(o:HO):aV H (upd H p o):=fun b u q=>by rw[aO (av q h)];exact q
theorem ko{c:Prop}[Decidable c](h:decide c=true):c:=of_decide_eq_true h
theorem kR{c:Prop}[Decidable c](h:¬decide c=true):¬c:=fun z=>h (decide_eq_true z)
theorem lt2:2<=aB:=by decide
theorem lt5:5<=aB:=by decide
def BO:V->Prop
 |.int _=>True
 |.str _=>True
 |_=>False
def Tree(H:Hp):Nat->V->Prop
 |0,v=>BO v
 |n+1,v=>BO v\/∃p xs,v=.ref p/\(H p=some (.lst xs)\/H p=some (.tup xs))/\xs.length<1000/\∀x∈xs,Tree H n x
def Alike(H H':Hp):Nat->V->V->Prop
 |0,v,Y=>Y=v
 |n+1,v,Y=>(BO v/\Y=v)\/(∃p Z xs ys,v=.ref p/\Y=.ref Z/\H p=some (.lst xs)/\H' Z=some (.lst ys)/\aP (Alike H H' n) xs ys) \/
   ∃p Z xs ys,v=.ref p/\Y=.ref Z/\H p=some (.tup xs)/\H' Z=some (.tup ys)/\aP (Alike H H' n) xs ys
theorem Alike.mono{H H1 H2:Hp}(s:aV H1 H2):∀{n:Nat} {v Y:V},Alike H H1 n v Y->Alike H H2 n v Y
 |0,_,_,h=>h
 |n+1,v,Y,h=>by
  rcases h with h|⟨p,Z,xs,ys,e1,W,h1,h2,r⟩|⟨p,Z,xs,ys,e1,W,h1,h2,r⟩
  ·exact .inl h
  ·exact .inr (.inl {p,Z,xs,ys,e1,W,h1,s _ _ h2,L2.Paired.imp' (fun _ _ z=>Alike.mono s z) r})
  ·exact .inr (.inr {p,Z,xs,ys,e1,W,h1,s _ _ h2,L2.Paired.imp' (fun _ _ z=>Alike.mono s z) r})
theorem Tree.same{H H1:Hp}(s:aV H H1):∀{n:Nat} {v:V},Tree H n v->Tree H1 n v
 |0,_,h=>h
 |n+1,v,h=>by
  rcases h with h|⟨p,xs,e,h1,h2,Z⟩
  ·exact .inl h
  ·exact .inr {p,xs,e,h1.imp (s _ _) (s _ _),h2,fun x hx=>Tree.same s (Z x hx)}
theorem Alike.from{H H0 H1:Hp}(s:aV H H0):∀{n:Nat} {v U:V},Tree H n v->Alike H0 H1 n v U->Alike H H1 n v U
 |0,_,_,_,h=>h
 |n+1,v,U,t,h=>by
  rcases t with t|⟨q,zs,e,t1,M,W⟩
  ·rcases h with h|⟨p,Z,xs,ys,e1,Y,h1,h2,r⟩|⟨p,Z,xs,ys,e1,Y,h1,h2,r⟩
   ·exact .inl h
   ·rw[e1]at t;exact t.elim
   ·rw[e1]at t;exact t.elim
  ·rcases h with h|⟨p,Z,xs,ys,e1,Y,h1,h2,r⟩|⟨p,Z,xs,ys,e1,Y,h1,h2,r⟩
   ·exact .inl h
   ·rw[e]at e1
    cases e1
    rcases t1 with t1|t1
    ·have z:=s _ _ t1;rw[h1]at z
     cases z;refine .inr (.inl {q,Z,zs,ys,e,Y,t1,h2,?_});clear h1 t1 M h2
     induction r with
     |nil=>exact .nil
     |cons a b O=>exact .cons (Alike.from s (W _ aC) a) (O fun x hx=>W x (ah _ hx))
    ·have z:=s _ _ t1;rw[h1]at z
     cases z
   ·rw[e]at e1
    cases e1
    rcases t1 with t1|t1
    ·have z:=s _ _ t1;rw[h1]at z
     cases z
    ·have z:=s _ _ t1;rw[h1]at z
     cases z;refine .inr (.inr {q,Z,zs,ys,e,Y,t1,h2,?_});clear h1 t1 M h2
     induction r with
     |nil=>exact .nil
     |cons a b O=>exact .cons (Alike.from s (W _ aC) a) (O fun x hx=>W x (ah _ hx))
theorem GZ{K:ae}:gG K (.type "int") (.type "list")=some false:=by kernel_rfl
theorem Ha{K:ae}:gG K (.type "str") (.type "list")=some false:=by kernel_rfl
theorem Hc{K:ae}:gG K (.type "int") (.type "tuple")=some false:=by kernel_rfl
theorem He{K:ae}:gG K (.type "str") (.type "tuple")=some false:=by kernel_rfl
theorem NI{K:ae}:gG K (.type "list") (.type "list")=some true:=by rfl
theorem NJ{K:ae}:gG K (.type "tuple") (.type "list")=some false:=by kernel_rfl
theorem NK{K:ae}:gG K (.type "tuple") (.type "tuple")=some true:=by rfl
def Nw(H G:Hp):Hp:=fun a=>if H a=none then G a else none
theorem Ay{H G:Hp}{a:aa}(n:H a=none):Nw H G a=G a:=if_pos n
theorem nw_le{H G:Hp}:aV (Nw H G) G:=fun a o e=>by
 unfold Nw at e
 by_cases c:H a=none
 ·rw[if_pos c]at e;exact e
 ·rw[if_neg c]at e
  cases e
theorem vI{H G G':Hp}(s:aV G G'):aV (Nw H G) (Nw H G'):=fun a o e=>by
 by_cases c:H a=none
 ·rw[Ay c]at e |-;exact s _ _ e
 ·unfold Nw at e;rw[if_neg c]at e
  cases e
theorem CH{H0 H G:Hp}(d:∀a,H a=none->H0 a=none):aV (Nw H G) (Nw H0 G):=fun a o e=>by
 by_cases c:H a=none
 ·rw[Ay c]at e;rw[Ay (d a c)];exact e
 ·unfold Nw at e;rw[if_neg c]at e
  cases e
theorem sU{H G:Hp}(s:aV H G):∀a,G a=none->H a=none:=fun a n=>by
 cases z:H a with
 |none=>rfl
 |some o=>
  rw[s _ _ z]at n
  cases n
section
variable{P:aN}{w:bL}{K:ae}{mg:Str->Option af}{base:cz}{f fC fI CM CS:aa}{fd fdC fdI:bR}
def qI(n:Nat):Sp:=fun vs H Q _=>∃v,vs=[v]/\Tree H n v/\∀(Z:V) (H':Hp),aV H H'->Alike H (Nw H H') n v Z->Q Z H'
theorem scC:bM ["thing"] ["thing"] (aM n6):={}
theorem CI:(["part","thing"]:List Str).Nodup:=by decide +kernel
theorem yo{Z Y:Type}{R:Z->Y->Prop}{xs:List Z}{ys:List Y}{i:Nat}{x:Z}{y:Y}(r:aP R (xs.take i) ys)(hx:xs[i]?=some x)(h:R x y):aP R (xs.take (i+1)) (ys++[y]):=by
 have e:xs.take (i+1)=xs.take i++[x]:=by rw[eR,hx];rfl
 rw[e];exact eP r h
theorem Az{n:Nat}(D:Df K mg "copied" n6 ["thing"] f fd)(B:Bl mg)(G:bA P w K mg base CX0 (n+1) f fd ["thing"] (qI n)):bA P w K mg base CX0 (n+2) f fd ["thing"] (qI (n+1)):=by
 refine D.F.ok scC (fun vs H Q E h=>?_) (fun M A outer s H vs Q E hr h=>?_)
 ·obtain⟨v,rfl,_⟩:=h;rfl
 obtain⟨v,rfl,ht,q⟩:=h;refine⟨_,ai (cK (p9 (cS kg (by rfl) B.isi qH (au (pv 0) (au (sE (v:=.ty "list") (by rfl) B.list boot_list rfl) aj))))
   (ay (bN (mP ["part"] (iI.closed (by decide +kernel) (by decide +kernel) rfl (by decide +kernel) (by intro n U;rcases aE.mp U with rfl;decide +kernel)) rfl (iU (pv 0)) (fun _ _ _ _=>dO (i:=0) CI rfl (Or.inl rfl)) (fun _ _ _ _=>jY)
    (fun _ _ _ _=>aL G hr rfl D.m D.F.kp D.b .nil bC (au (pv 0) aj))))) bS)
  (ai (cK (p9 (cS kg (by rfl) B.isi qH (au (pv 0) (au (sE (v:=.ty "tuple") (by rfl) B.tuple boot_tuple rfl) aj))))
   (ay (bN (hJ xH (by rfl) B.tuple boot_tuple (au (mP ["part"] (iI.closed (by decide +kernel) (by decide +kernel) rfl (by decide +kernel) (by intro n U;rcases aE.mp U with rfl;decide +kernel)) rfl (M6 (pv 0)) (fun _ _ _ _=>dO (i:=0) CI rfl (Or.inl rfl)) (fun _ _ _ _=>jY)
    (fun _ _ _ _=>aL G hr rfl D.m D.F.kp D.b .nil bC (au (pv 0) aj))) aj)))) bS)
  (ay (bN (pv 0)))),?_⟩
 have big:1000<aB:=by decide
 rcases ht with ht|⟨p,xs,rfl,hp,hl,hx⟩
 ·cases v with
  |int i=>
   refine{_,rfl,_,"list",_,false,rfl,.int i,GZ,_,rfl,gb ?_};refine{_,rfl,_,"tuple",_,false,rfl,.int i,Hc,_,rfl,gb ?_};exact{_,rfl,q _ _ (aV.refl H) (.inl ⟨trivial,rfl⟩)}
  |str x=>
   refine{_,rfl,_,"list",_,false,rfl,.str x,Ha,_,rfl,gb ?_};refine{_,rfl,_,"tuple",_,false,rfl,.str x,He,_,rfl,gb ?_};exact{_,rfl,q _ _ (aV.refl H) (.inl ⟨trivial,rfl⟩)}
  |non=>exact ht.elim
  |bl b=>exact ht.elim
  |byt b=>exact ht.elim
  |flt b=>exact ht.elim
  |ref a=>exact ht.elim
  |ty a=>exact ht.elim
 ·rcases hp with hp|hp
  ·refine{_,rfl,_,"list",_,true,rfl,.lst hp,NI,_,rfl,iH ?_};refine{_,rfl,p,rfl,{_,SqL.of hp},t8 (K:=K) (a:=p) (xs:=xs) (fun i ys H1=>i<=xs.length/\ys.length=i/\aV H H1/\aP (Alike H (Nw H H1) n) (xs.take i) ys) {bU _,rfl,aV.refl H,.nil} ?_ ?_ ?_}
   ·rintro i ys H1 hi ⟨_,h1,h2,_⟩;exact{SqL.of (h2 _ _ hp),by omega}
   ·rintro i x ys H1 hi ⟨h0,h1,h2,Y⟩;have hm:x∈xs:=cq hi;have lt:i<xs.length:=(aG.mp hi).1;refine{rfl,?_};unfold xK;refine iH ?_;refine{_,rfl,x,rfl,Tree.same h2 (hx x hm),fun J H2 s2 W=>?_};exact{lt,by rw[aA,h1];rfl,h2.trans s2,yo (L2.Paired.imp' (fun _ _ z=>Alike.mono (vI s2) z) Y) hi (Alike.mono (CH (sU h2)) (Alike.from h2 (hx x hm) W))}
   ·rintro ys H1 ⟨_,h1,h2,Y⟩ l Z;rw[dZ]at Y;refine q _ _ (h2.trans (aF Z _)) (.inr (.inl {p,l,xs,ys,rfl,rfl,hp,(by rw[Ay (sU h2 _ Z)];exact ag),L2.Paired.imp' (fun _ _ z=>Alike.mono (vI (aF Z _)) z) Y}))
  ·refine{_,rfl,_,"list",_,false,rfl,.tup hp,NJ,_,rfl,gb ?_};refine{_,rfl,_,"tuple",_,true,rfl,.tup hp,NK,_,rfl,iH ?_};refine{_,rfl,p,rfl,{_,SqT.of hp},FY (K:=K) (a:=p) (xs:=xs) (Q:=fun v H1=>∃z ys,[v]=[V.ref z]/\((SqL K H1 z ys/\∀l,H1 l=none->Q (.ref l) (upd H1 l (.tup ys)))\/(SqT K H1 z ys/\Q (.ref z) H1))) (fun i ys H1=>i<=xs.length/\ys.length=i/\aV H H1/\aP (Alike H (Nw H H1) n) (xs.take i) ys) {bU _,rfl,aV.refl H,.nil} ?_ ?_ ?_}
   ·rintro i ys H1 hi ⟨_,h1,h2,_⟩;exact{SqT.of (h2 _ _ hp),by omega}
   ·rintro i x ys H1 hi ⟨h0,h1,h2,Y⟩;have hm:x∈xs:=cq hi;have lt:i<xs.length:=(aG.mp hi).1;refine{rfl,?_};unfold xK;refine iH ?_;refine{_,rfl,x,rfl,Tree.same h2 (hx x hm),fun J H2 s2 W=>?_};exact{lt,by rw[aA,h1];rfl,h2.trans s2,yo (L2.Paired.imp' (fun _ _ z=>Alike.mono (vI s2) z) Y) hi (Alike.mono (CH (sU h2)) (Alike.from h2 (hx x hm) W))}
   ·rintro ys H1 ⟨_,h1,h2,Y⟩ l Z;rw[dZ]at Y;refine{l,ys,rfl,.inl {SqL.of ag,fun t ht=>?_}};have O:aV H1 (upd (upd H1 l (.lst ys)) t (.tup ys)):=(aF Z _).trans (aF ht _);exact q _ _ (h2.trans O) (.inr (.inr {p,t,xs,ys,rfl,rfl,hp,(by rw[Ay (sU (h2.trans (aF Z (.lst ys))) _ ht)];exact ag),L2.Paired.imp' (fun _ _ z=>Alike.mono (vI O) z) Y}))
theorem AA(D:Df K mg "copied" n6 ["thing"] f fd)(B:Bl mg):bA P w K mg base CX0 1 f fd ["thing"] (qI 0):=by
 refine D.F.ok scC (fun vs H Q E h=>?_) (fun Z A outer s H vs Q E hr h=>?_)
 ·obtain⟨v,rfl,_⟩:=h;rfl
 obtain⟨v,rfl,ht,q⟩:=h;refine⟨_,ai (cK (p9 (cS kg (by rfl) B.isi qH (au (pv 0) (au (sE (v:=.ty "list") (by rfl) B.list boot_list rfl) aj)))) xW bS)
  (ai (cK (p9 (cS kg (by rfl) B.isi qH (au (pv 0) (au (sE (v:=.ty "tuple") (by rfl) B.tuple boot_tuple rfl) aj)))) xW bS)
  (ay (bN (pv 0)))),?_⟩
 have ht:BO v:=ht
 cases v with
 |int i=>
  refine{_,rfl,_,"list",_,false,rfl,.int i,GZ,_,rfl,gb ?_};refine{_,rfl,_,"tuple",_,false,rfl,.int i,Hc,_,rfl,gb ?_};exact{_,rfl,q _ _ (aV.refl H) rfl}
 |str x=>
  refine{_,rfl,_,"list",_,false,rfl,.str x,Ha,_,rfl,gb ?_};refine{_,rfl,_,"tuple",_,false,rfl,.str x,He,_,rfl,gb ?_};exact{_,rfl,q _ _ (aV.refl H) rfl}
 |non=>exact ht.elim
 |bl b=>exact ht.elim
 |byt b=>exact ht.elim
 |flt b=>exact ht.elim
 |ref a=>exact ht.elim
 |ty a=>exact ht.elim
theorem yp(D:Df K mg "copied" n6 ["thing"] f fd)(B:Bl mg):∀n:Nat,bA P w K mg base CX0 (n+1) f fd ["thing"] (qI n)
 |0=>AA D B
 |n+1=>Az D B (yp D B n)
structure MdT(K:ae)(mg:Str->Option af)(CM CS:aa):Prop where
 clM:Cls K CM
 clS:Cls K CS
 nM:eI K CM "machines"
 nB:eI K CS "boxes"
 nQ:eI K CS "queues"
 nD:eI K CS "drawn"
 nS:eI K CS "sent"
 mM:mg "Model"=some (.ref CM)
 mS:mg "State"=some (.ref CS)
inductive Ly(CM:aa)(n:Nat)(vs:List V)(H:Hp)(Q:VK)(_e:XK):Prop where
 |mk(m dx:aa)(v:V)(_:vs=[.ref m,v])(_:H m=some (.ins CM dx []))(_:Tree H n v)(_:∀(v':V) (H':Hp),aV H H'->Alike H (Nw H H') n v v'->Q .non (upd H' m (.ins CM dx (cH "machines" v' [])))):Ly CM n vs H Q _e
def NM(CM:aa)(n:Nat):Sp:=fun vs H Q Z=>Ly CM n vs H Q Z
theorem scMI:bM ["self","machines"] ["self","machines"] (aM oX):={}
theorem Lz{n:Nat}(F:Fun K "__init__" "Model.__init__" oX f fd)(Z:Df K mg "copied" n6 ["thing"] fC fdC)(B:Bl mg)(T:MdT K mg CM CS):bA P w K mg base CX0 (n+2) f fd ["self","machines"] (NM CM n):=by
 have O:bA P w K mg base CX0 (n+1) fC fdC ["thing"] (qI n):=yp Z B n;refine F.ok scMI (fun vs H Q E h=>?_) (fun W A outer s H vs Q E hr h=>?_)
 ·obtain⟨m,dx,v,rfl,_⟩:=h;rfl
 obtain⟨m,dx,v,rfl,hm,ht,q⟩:=h;refine{_,ay (eJ (pv 0) (aL O hr rfl Z.m Z.F.kp Z.b .nil bC (au (pv 1) aj)) rfl),?_};refine{_,rfl,v,rfl,ht,fun U H' Y V=>?_};exact{_,rfl,m,CM,dx,[],rfl,Y _ _ hm,T.clM,T.nM,(by show 0<1000;decide),q U H' Y V}
def pz(b q d e:V):List (Str×V):=cH "sent" e (cH "drawn" d (cH "queues" q (cH "boxes" b [])))
inductive LA(CS:aa)(vs:List V)(H:Hp)(Q:VK)(_e:XK):Prop where
 |mk(m dx:aa)(b q d e:V)(_:vs=[.ref m,b,q,d,e])(_:H m=some (.ins CS dx []))(_:∀H':Hp,H' m=some (.ins CS dx (pz b q d e))->But m H H'->Q .non H'):LA CS vs H Q _e
def NO(CS:aa):Sp:=fun vs H Q Z=>LA CS vs H Q Z
theorem scSI:bM ["self","boxes","queues","drawn","sent"] ["self","boxes","queues","drawn","sent"] (aM jC):={}
theorem gZ(f:Str)(v:V)(fs:List (Str×V)):(cH f v fs).length<=fs.length+1:=by
 induction fs with
 |nil=>exact aD _
 |cons p r Z=>
  unfold cH
  split
  ·rw[aT,aT];omega
  ·rw[aT,aT];omega
theorem LB(F:Fun K "__init__" "State.__init__" jC f fd)(T:MdT K mg CM CS):bA P w K mg base CX0 1 f fd ["self","boxes","queues","drawn","sent"] (NO CS):=by
 refine F.ok scSI (fun vs H Q E h=>?_) (fun Y A outer s H vs Q E hr h=>?_)
 ·obtain⟨m,dx,b,q,d,e,rfl,_⟩:=h;rfl
 obtain⟨m,dx,b,q,d,e,rfl,hm,k⟩:=h;refine{_,ai (eJ (pv 0) (pv 1) rfl) (ai (eJ (pv 0) (pv 2) rfl) (ai (eJ (pv 0) (pv 3) rfl) (ay (eJ (pv 0) (pv 4) rfl)))),?_};have Z:=gZ "boxes" b [];have W:=gZ "queues" q (cH "boxes" b []);have V:=gZ "drawn" d (cH "queues" q (cH "boxes" b []));simp only[cw]at Z;refine{_,rfl,_,rfl,m,CS,dx,[],rfl,hm,T.clS,T.nB,(by show 0<1000;decide),_,rfl,_,rfl,m,CS,dx,_,rfl,ag,T.clS,T.nQ,(by omega),_,rfl,_,rfl,m,CS,dx,_,rfl,ag,T.clS,T.nD,(by omega),_,rfl,_,rfl,m,CS,dx,_,rfl,ag,T.clS,T.nS,(by omega),?_};exact k _ ag (((But.upd m H _).trans (But.upd m _ _)).trans ((But.upd m _ _).trans (But.upd m _ _)))
inductive Hf(CM:aa)(vs:List V)(H:Hp)(Q:VK)(_e:XK):Prop where
 |mk(m dx l t b q:aa)(fs:List (Str×V))(n0 x3 x4:V)(_:vs=[.ref m,.int 0])(_:H m=some (.ins CM dx fs))(_:fs.lookup ("machines":Str)=some (V.ref l))(_:H l=some (.lst [.ref t]))(_:H t=some (.tup [n0,.ref b,.ref q,x3,x4]))(_:H b=some (.lst []))(_:H q=some (.lst []))(_:∀(st:aa) (H':Hp),aV H H'->Q (.ref st) H'):Hf CM vs H Q _e
theorem JV:bM ["model","at","machine","queues","name"] ["model","at"] (aM jZ):={}
end
section
variable{κ:Type}[DecidableEq κ]
abbrev rM(ps:List (κ×V))(m:List (κ×V)):List (κ×V):=ps.foldl (fun m p=>ja m p.1 p.2) m
end
theorem oo{H H':Hp}{n:Nat}{a:aa}{xs:List V}{y:V}(ha:H a=some (.lst xs))(z:Alike H H' (n+1) (.ref a) y):∃(U:aa) (ys:List V),y=.ref U/\H' U=some (.lst ys)/\aP (Alike H H' n) xs ys:=by
 rcases z with⟨z,_⟩|⟨p,Y,Z,ys,e1,W,h1,h2,r⟩|⟨p,Y,Z,ys,e1,W,h1,h2,r⟩
 ·exact z.elim
 ·cases e1;rw[ha]at h1
  cases h1;exact⟨Y,ys,W,h2,r⟩
 ·cases e1;rw[ha]at h1
  cases h1
theorem ug{H H':Hp}{n:Nat}{a:aa}{xs:List V}{y:V}(ha:H a=some (.tup xs))(z:Alike H H' (n+1) (.ref a) y):∃(U:aa) (ys:List V),y=.ref U/\H' U=some (.tup ys)/\aP (Alike H H' n) xs ys:=by
 rcases z with⟨z,_⟩|⟨p,Y,Z,ys,e1,W,h1,h2,r⟩|⟨p,Y,Z,ys,e1,W,h1,h2,r⟩
 ·exact z.elim
 ·cases e1;rw[ha]at h1
  cases h1
 ·cases e1;rw[ha]at h1
  cases h1;exact⟨Y,ys,W,h2,r⟩
theorem fu{H H':Hp}{n:Nat}{v y:V}(hv:BO v)(z:Alike H H' n v y):y=v:=by
 cases n with
 |zero=>exact z
 |succ n=>
  rcases z with⟨_,z⟩|⟨p,Y,Z,ys,e1,W,h1,h2,r⟩|⟨p,Y,Z,ys,e1,W,h1,h2,r⟩
  ·exact z
  ·rw[e1]at hv;exact hv.elim
  ·rw[e1]at hv;exact hv.elim
theorem iZ{H H':Hp}{n:Nat}{xs ys:List V}(r:aP (Alike H H' n) xs ys):(∀x∈xs,BO x)->ys=xs:=by
 induction r with
 |nil=>exact fun _=>rfl
 |cons a b Z=>
  intro h;rw[fu (h _ aC) a,Z fun x hx=>h x (ah _ hx)]
def gO(H:Hp)(ps:List (Str×Int))(vs:List V):Prop:=vy H (ps.map fun p=>(Sum.inr p.1,V.int p.2)) vs
theorem gO.same{H H':Hp}(s:aV H H'):∀{ps:List (Str×Int)} {vs:List V},gO H ps vs->gO H' ps vs
 | [],_,h=>by
  cases h;exact .nil
 |p::ps,_,h=>by
  cases h with
  |cons a b=>
   obtain⟨t,e,h⟩:=a;exact .cons {t,e,s _ _ h} (gO.same s (ps:=ps) b)
theorem gO.alike{H H':Hp}{n:Nat}:∀{ps:List (Str×Int)} {vs ys:List V},gO H ps vs->aP (Alike H H' (n+1)) vs ys->gO H' ps ys
 | [],_,_,h,r=>by
  cases h
  cases r;exact .nil
 |p::ps,_,_,h,r=>by
  cases h with
  |cons a b=>
   cases r with
   |cons r1 r2=>
    obtain⟨t,rfl,h⟩:=a;obtain⟨t',ys,rfl,h',Z⟩:=ug h r1;have e:=iZ Z (fun x hx=>by
     simp only[ar,aK,or_false]at hx
     rcases hx with rfl|rfl
     ·exact trivial
     ·exact trivial)
    rw[e]at h';exact .cons ⟨t',rfl,h'⟩ (gO.alike (ps:=ps) b r2)
theorem gO.length{H:Hp}{ps:List (Str×Int)}{vs:List V}(h:gO H ps vs):ps.length=vs.length:=by
 have z:=aZ h;rw[ao]at z;exact z
theorem gO.tree{H:Hp}{n:Nat}:∀{ps:List (Str×Int)} {vs:List V},gO H ps vs->∀x∈vs,Tree H (n+1) x
 | [],_,h,x,hx=>by
  cases h
  cases hx
 |p::ps,_,h,x,hx=>by
  cases h with
  |cons a b=>
   rcases ar.mp hx with rfl|hx
   ·obtain⟨t,rfl,h⟩:=a;refine .inr {t,_,rfl,.inr h,(by show 2<1000;decide),fun y hy=>?_};simp only[ar,aK,or_false]at hy
    rcases hy with rfl|rfl
    ·cases n<;>first|exact trivial|exact .inl trivial
    ·cases n<;>first|exact trivial|exact .inl trivial
   ·exact gO.tree (ps:=ps) b x hx
section
variable{P:aN}{w:bL}{K:ae}{mg:Str->Option af}{base:cz}{f fI CM CS:aa}{fd fdI:bR}
abbrev NP(ps:List (Str×Int)):List (Key×V):=rM (ps.map fun p=>((Sum.inr p.1:Key),V.int p.2)) []
abbrev quT(qs:List Str)(Z:List aa):List (Key×V):=rM ((qs.zip Z).map fun p=>((Sum.inr p.1:Key),V.ref p.2)) []
structure New(H H':Hp)(CS st:aa)(ps:List (Str×Int))(qs:List Str)(dx bd qd:aa)(ls:List aa):Prop where
 hst:H' st=some (.ins CS dx (pz (.ref bd) (.ref qd) (.int 0) (.int 0)))
 hbd:H' bd=some (.dK (NP ps))
 hqd:H' qd=some (.dK (quT qs ls))
 len:ls.length=qs.length
 nd:ls.Nodup
 li:∀l∈ls,H l=none/\H' l=some (.lst [])
 ost:H st=none
 obd:H bd=none
 oqd:H qd=none
 ne:qd≠bd
 same:aV H H'
inductive yq(CM CS:aa)(vs:List V)(H:Hp)(Q:VK)(_e:XK):Prop where
 |mk(m dx l t b q:aa)(fs:List (Str×V))(n0 x3 x4:V)(i:Nat)(ms vb:List V)(ps:List (Str×Int))(qs:List Str)(_:vs=[.ref m,.int (i:Int)])(_:H m=some (.ins CM dx fs))(_:fs.lookup ("machines":Str)=some (V.ref l))(_:H l=some (.lst ms))(_:ms[i]?=some (.ref t))(_:H t=some (.tup [n0,.ref b,.ref q,x3,x4]))(_:H b=some (.lst vb))(_:gO H ps vb)(_:ps.length<=100)(_:H q=some (.lst (qs.map V.str)))(_:qs.length<=100)(_:∀(st dx bd qd:aa) (ls:List aa) (H':Hp),New H H' CS st ps qs dx bd qd ls->Q (.ref st) H'):yq CM CS vs H Q _e
def AB(CM CS:aa):Sp:=fun vs H Q Z=>yq CM CS vs H Q Z
theorem Hg{Z Y:Type}{xs:List Z}{ys:List Y}{i:Nat}{x:Z}{y:Y}(hl:ys.length=i)(hx:xs[i]?=some x):(xs.take (i+1)).zip (ys++[y])=(xs.take i).zip ys++[(x,y)]:=by
 have lt:i<xs.length:=(aG.mp hx).1;have e:xs.take (i+1)=xs.take i++[x]:=by rw[eR,hx];rfl
 rw[e,List.zip_append (by rw[c9,hl];omega)];rfl
theorem uh(D:Df K mg "first_state" jZ ["model","at"] f fd)(MS:Mk K CS fI)(FI:Fun K "__init__" "State.__init__" jC fI fdI)(bI:Binds K fdI ["self","boxes","queues","drawn","sent"] [])(B:Bl mg)(T:MdT K mg CM CS) :
  bA P w K mg base CX0 3 f fd ["model","at"] (AB CM CS):=by
 have GI:bA P w K mg base CX0 1 fI fdI ["self","boxes","queues","drawn","sent"] (NO CS):=LB FI T;refine D.F.ok JV (fun vs H Q E h=>?_) (fun cs A outer s H vs Q E hr h=>?_)
 ·obtain⟨m,dx,l,t,b,q,fs,n0,x3,x4,i,ms,vb,ps,qs,rfl,_⟩:=h;rfl
 obtain⟨m,dx,l,t,b,q,fs,n0,x3,x4,i,ms,vb,ps,qs,rfl,hm,di,hl,hi,ht,hb,dt,da,hq,dc,k⟩:=h;have hu:=lN hr;refine⟨_,ai (bh (i:=2) JV.nd rfl (Or.inl rfl) (bP cJ (cW (pv 0) rfl) (pv 1) (fun _ _=>rfl)))
  (ai (bh (i:=3) JV.nd rfl (Or.inl rfl) qv)
  (ai (jo cO rfl (iU (bP cF (pv 2) aw (fun _ _=>rfl))) (dO (i:=4) JV.nd rfl (Or.inl rfl)) (ay (kW hu (pv 3) (pv 4) (eA aj) rfl)))
  (ay (bN (jW MS GI hr (by rfl) T.mS bI .nil bC (au (hJ (BD rfl) (by rfl) B.dict boot_dict (au (bP cF (pv 2) aw (fun _ _=>rfl)) aj)) (au (pv 3) (au aw (au aw aj))))))))),?_⟩
 refine{_,rfl,m,CM,dx,_,_,rfl,hm,T.clM,T.nM,di,_,rfl,l,_,_,_,rfl,rfl,SqL.of hl,ij hi,?_};intro d hd;have s1:aV H (upd H d (.dK [])):=aF hd _;have big:1000<aB:=by decide
 have a2:atI [n0,V.ref b,V.ref q,x3,x4] 2=some (V.ref q):=rfl;have a1:atI [n0,V.ref b,V.ref q,x3,x4] 1=some (V.ref b):=rfl;refine⟨_,rfl,t,_,_,_,rfl,rfl,SqT.of (s1 _ _ ht),a2,q,rfl,{_,SqL.of (s1 _ _ hq)},j7 (K:=K) (a:=q) (xs:=qs.map V.str) (fun j σ G=>∃(v4:Option V) (Z:List aa),σ=[some (.ref m),some (.int (i:Int)),some (.ref t),some (.ref d),v4]/\j<=qs.length/\G d=some (.dK (quT (qs.take j) Z))/\Z.length=j/\Z.Nodup/\(∀z∈Z,H z=none/\G z=some (.lst []))/\aV H G)
  {none,[],rfl,bU _,ag,rfl,ic,(fun z Y=>by cases Y),s1} ?_ ?_ ?_⟩
 ·rintro j σ G _ ⟨v4,Z,rfl,_,_,_,_,_,sm⟩;exact SqL.of (sm _ _ hq)
 ·rintro j x σ G M ⟨v4,Z,rfl,jl,W,ll,nd,li,sm⟩;obtain⟨nm,I,rfl⟩:∃nm,qs[j]?=some nm/\x=V.str nm:=by
   rw[cC]at M
   cases e:qs[j]? with
   |none=>rw[e]at M;cases M
   |some nm=>rw[e]at M;cases M;exact⟨nm,rfl,rfl⟩
  have de:j<qs.length:=(aG.mp I).1;refine{bU _,fun z Y=>?_};have g:d≠z:=av W Y;have dj:upd G z (.lst []) d=some (.dK (quT (qs.take j) Z)):=by rw[aO g];exact W
  have lt:(quT (qs.take j) Z).length<aB:=by
   have U:=Ar ((((qs.take j).zip Z).map fun p=>((Sum.inr p.1:Key),V.ref p.2))) [];rw[ao,qJ,c9]at U;simp only[cw]at U;exact jA U (by omega)
  refine{_,rfl,_,rfl,d,_,rfl,sQ.k (k:=Sum.inr nm) dj lt,?_};have fz:H z=none:=sm.free Y;have dv:z∉Z:=fun c=>by
   have U:=(li z c).2;rw[Y]at U
   cases U
  refine{_,Z++[z],rfl,de,?_,by rw[aA,ll];rfl,yX nd dv,fun y hy=>?_,?_}
  ·show upd _ d _ d=_;rw[ag];show some (HO.dK (ja (quT (qs.take j) Z) (Sum.inr nm) (.ref z)))=some (HO.dK (quT (qs.take (j+1)) (Z++[z])));unfold quT;rw[Hg ll I,bT];unfold rM;rw[uR];rfl
  ·rcases bY.mp hy with c|c
   ·obtain⟨c1,O⟩:=li y c;refine{c1,?_};rw[aO (pG O W (by intro e;cases e)),aO (av O Y)];exact O
   ·rw[aE.mp c];refine{fz,?_};rw[aO g.symm];exact ag
  ·intro c o hc;have O:=sm _ _ hc;have cd:c≠d:=av hc hd;rw[aO cd,aO (av O Y)];exact O
 ·rintro σ G ⟨v4,Z,rfl,jl,W,ll,nd,li,sm⟩;rw[ao]at ll W;rw[dZ]at W;refine{_,rfl,t,_,_,_,rfl,rfl,SqT.of (sm _ _ ht),a1,b,vb,_,rfl,sm _ _ hb,gO.same sm dt,by rw[ao];omega,fun e he=>?_};have s2:aV G (upd G e (.dK (NP ps))):=aF he _;refine{_,rfl,?_};intro x J nx dn cr;refine{x,J,_,_,_,_,rfl,ag,fun H' hx bt=>{rfl,k x J e d Z H' ?_}};have up:∀{c:aa} {o:HO},upd G e (.dK (NP ps)) c=some o->H' c=some o:=fun {c o} hc=>by
   have cx:c≠x:=av hc nx;refine bt c o ?_ cx;rw[aO cx,aO (av hc dn)];exact hc
  exact{hx,up ag,up (s2 _ _ W),ll,nd,fun z Y=>{(li z Y).1,up (s2 _ _ (li z Y).2)},sm.free (s2.free nx),sm.free he,hd,av W he,fun c o hc=>up (s2 _ _ (sm _ _ hc))}
end
section
variable{κ:Type}[DecidableEq κ]
theorem BP:∀(ps m:List (κ×V)),((m++ps).map (·.1)).Nodup->rM ps m=m++ps
 | [],m,_=>by simp[rM]
 |p::r,m,h=>by
  have nk:jL m p.1=none:=by
   cases e:jL m p.1 with
   |none=>rfl
   |some v=>
    exfalso;rw[bT,b9]at h;exact (gX.mp h).2.2 p.1 (Cr e) p.1 aC rfl
  show rM r (ja m p.1 p.2)=_;rw[Ac p.2 nk,BP r (m++[(p.1,p.2)]) (by rw[jP];exact h),jP];rfl
end
theorem gO.tups{H H':Hp}(s:∀t xs,H t=some (.tup xs)->H' t=some (.tup xs)):∀{ps:List (Str×Int)} {vs:List V},gO H ps vs->gO H' ps vs
 | [],_,h=>by
  cases h;exact .nil
 |p::ps,_,h=>by
  cases h with
  |cons a b=>
   obtain⟨t,e,h⟩:=a;exact .cons {t,e,s _ _ h} (gO.tups s (ps:=ps) b)
def CJ:List Str:=["plus","less","times","part","rest","below","same"]
inductive Fm where
 |num(n:Int)
 |box(x:Str)
 |long(x:Str)
 |got(j:Bool)
 |now
 |two(k:Str)(f g:Fm)
def Fm.depth:Fm->Nat
 |.two _ f g=>max f.depth g.depth+1
 |_=>1
inductive Rs where
 |ok(r:Int)
 |nought
 |great
def AC(k:Str)(a b:Int):Rs:=
 if k="plus" then .ok (a+b) else if k="less" then .ok (a-b) else if k="times" then .ok (a*b) else if k="below" then .ok (if a<b then 1 else 0)
 else if k="same" then .ok (if a=b then 1 else 0) else if b=0 then .nought else if k="part" then .ok (a.fdiv b) else .ok (a.fmod b)
def sW(r:Int):Int:=if r<0 then -r else r
def cap:Rs->Rs
 |.ok r=>if 10^15<sW r then .great else .ok r
 |.nought=>.nought
 |.great=>.great
structure zj where
 bx:Str->Int
 lg:Str->Nat
 g0:Int
 g1:Int
 nw:Int
def ev(e:zj):Fm->Rs
 |.num n=>.ok n
 |.box x=>.ok (e.bx x)
 |.long x=>.ok (e.lg x)
 |.got j=>.ok (if j then e.g1 else e.g0)
 |.now=>.ok e.nw
 |.two k f g=>match ev e f with
  |.ok a=>(match ev e g with
   |.ok b=>cap (AC k a b)
   |.nought=>.nought
   |.great=>.great)
  |.nought=>.nought
  |.great=>.great
def Wo(a:Int):Prop:=-(10^15)<=a/\a<=10^15
structure zj.Ok(e:zj)(bs qs:List Str):Prop where
 bx:∀x∈bs,Wo (e.bx x)
 lg:∀x∈qs,e.lg x<=1000
 g0:Wo e.g0
 g1:Wo e.g1
 nw:Wo e.nw
inductive jx(bs qs:List Str)(H:Hp):V->Fm->Prop where
 |num{t:aa}{n:Int}:H t=some (.tup [.str "number",.int n])->Wo n->jx bs qs H (.ref t) (.num n)
 |box{t:aa}{x:Str}:H t=some (.tup [.str "box",.str x])->x∈bs->jx bs qs H (.ref t) (.box x)
 |long{t:aa}{x:Str}:H t=some (.tup [.str "long",.str x])->x∈qs->jx bs qs H (.ref t) (.long x)
 |got{t:aa}{j:Bool}:H t=some (.tup [.str "got",.int (if j then 1 else 0)])->jx bs qs H (.ref t) (.got j)
 |now{t:aa}:H t=some (.tup [.str "now"])->jx bs qs H (.ref t) .now
 |two{t:aa}{k:Str}{u v:V}{f g:Fm}:H t=some (.tup [.str k,u,v])->k∈CJ->jx bs qs H u f->jx bs qs H v g->jx bs qs H (.ref t) (.two k f g)
theorem jx.mono{bs qs:List Str}{H H':Hp}{v:V}{f:Fm}(h:jx bs qs H v f)(s:∀t xs,H t=some (.tup xs)->H' t=some (.tup xs)):jx bs qs H' v f:=by
 induction h with
 |num h1 h2=>exact .num (s _ _ h1) h2
 |box h1 h2=>exact .box (s _ _ h1) h2
 |long h1 h2=>exact .long (s _ _ h1) h2
 |got h1=>exact .got (s _ _ h1)
 |now h1=>exact .now (s _ _ h1)
 |two h1 h2 _ _ i1 i2=>exact .two (s _ _ h1) h2 i1 i2
theorem jx.same{bs qs:List Str}{H H':Hp}{v:V}{f:Fm}(h:jx bs qs H v f)(s:aV H H'):jx bs qs H' v f:=h.mono fun _ _ e=>s _ _ e
theorem Hh{r:Int}(h:¬10^15<sW r):Wo r:=by
 unfold sW at h;unfold Wo
 split at h<;>omega
theorem Hi{r:Int}(h:Wo r):¬10^15<sW r:=by
 unfold Wo at h;unfold sW
 split<;>omega
theorem NQ{x:Rs}{r:Int}(h:cap x=.ok r):Wo r:=by
 cases x with
 |ok y=>
  unfold cap at h;dsimp only at h
  by_cases c:10^15<sW y
  ·rw[if_pos c]at h
   cases h
  ·rw[if_neg c]at h
   cases h;exact Hh c
 |nought=>cases h
 |great=>cases h
theorem lg_wo{n:Nat}(h:n<=1000):Wo (n:Int):=by
 unfold Wo;omega
theorem uS{bs qs:List Str}{H:Hp}{e:zj}(ok:e.Ok bs qs){v:V}{f:Fm}(h:jx bs qs H v f):∀{r:Int},ev e f=.ok r->Wo r:=by
 induction h with
 |num h1 h2=>
  intro r q;unfold ev at q
  cases q;exact h2
 |box h1 h2=>
  intro r q;unfold ev at q
  cases q;exact ok.bx _ h2
 |long h1 h2=>
  intro r q;unfold ev at q
  cases q;exact lg_wo (ok.lg _ h2)
 |@got t j h1=>
  intro r q;unfold ev at q
  cases q
  cases j
  ·exact ok.g0
  ·exact ok.g1
 |now h1=>
  intro r q;unfold ev at q
  cases q;exact ok.nw
 |@two t k u v f g h1 h2 _ _ i1 i2=>
  intro r q;unfold ev at q
  cases e1:ev e f with
  |ok a=>
   rw[e1]at q
   cases e2:ev e g with
   |ok b=>
    rw[e2]at q;exact NQ q
   |nought=>rw[e2]at q;cases q
   |great=>rw[e2]at q;cases q
  |nought=>rw[e1]at q;cases q
  |great=>rw[e1]at q;cases q
def yt(CN CG:aa)(r:Rs)(Q:VK)(E:XK)(H:Hp):Prop:=match r with
 |.ok r=>Q (.int r) H
 |.nought=>E (.ref CN) none H
 |.great=>E (.ref CG) none H
section
variable{P:aN}{w:bL}{K:ae}{mg:Str->Option af}{base:cz}{f fD fT fL CN CG CM CS:aa}{fd fdD fdT fdL:bR}
structure Fts(K:ae)(mg:Str->Option af)(CN CG:aa):Prop where
 mN:mg "Nought"=some (.ref CN)
 mG:mg "Great"=some (.ref CG)
 xN:cP K CN oV "ValueError.__new__"=true
 xG:cP K CG oV "ValueError.__new__"=true
 nn:cm K (.ref CN) (.ref CN)=some true
 gn:cm K (.ref CG) (.ref CN)=some false
 gg:cm K (.ref CG) (.ref CG)=some true
inductive Hj(CN:aa)(vs:List V)(H:Hp)(Q:VK)(E:XK):Prop where
 |mk(k:Str)(a b:Int)(_:vs=[.str k,.int a,.int b])(_:Wo b)(_:(b=0->E (.ref CN) none H))(_:(¬b=0->k="part"->Q (.int (a.fdiv b)) H))(_:(¬b=0->¬k="part"->Q (.int (a.fmod b)) H)):Hj CN vs H Q E
def LC(CN:aa):Sp:=fun vs H Q E=>Hj CN vs H Q E
theorem scDv:bM ["kind","first","second"] ["kind","first","second"] (aM eB):={}
theorem zk{a b:Int}(h:V.int a=V.int b):a=b:=V.int.inj h
theorem uj{a b:Str}(h:V.str a=V.str b):a=b:=V.str.inj h
theorem NR(D:Df K mg "number_of_division" eB ["kind","first","second"] f fd)(T:Fts K mg CN CG):bA P w K mg base (CXo P w) 1 f fd ["kind","first","second"] (LC CN):=by
 refine D.F.okX scDv (fun vs H Q E h=>?_) (fun Y A outer s H vs Q E hr h=>?_)
 ·obtain⟨k,a,b,rfl,_⟩:=h;rfl
 obtain⟨k,a,b,rfl,hb,h1,h2,W⟩:=h;refine⟨_,ai (cK (bO eN (pv 2) aw (bX _)) (ay (jB dP rfl rfl T.mN T.xN (au cb aj))) bS)
  (ai (cK (bO eN (pv 0) cb (bX _)) (ay (bN (cV F0 (pv 1) (pv 2)))) bS)
  (ay (bN (cV Jj (pv 1) (pv 2))))),?_⟩
 refine{_,rfl,rfl,_,rfl,?_};refine gi (fun c=>?_) (fun c=>?_)
 ·exact{(by show 1<=aB;decide),h1 (zk (ko c))}
 ·have nb:¬b=0:=fun z=>kR c (by rw[z]);refine{_,rfl,rfl,_,rfl,?_};refine gi (fun Z=>?_) (fun Z=>?_)
  ·refine{_,rfl,_,rfl,_,_,rfl,rfl,{nb,?_},h2 nb (uj (ko Z))};unfold Wo at hb;omega
  ·exact{_,rfl,_,rfl,_,_,rfl,rfl,nb,W nb (fun z=>kR Z (by rw[z]))}
inductive Hk(CN CG:aa)(vs:List V)(H:Hp)(Q:VK)(E:XK):Prop where
 |mk(k:Str)(a b:Int)(_:vs=[.str k,.int a,.int b])(_:Wo a)(_:Wo b)(_:yt CN CG (AC k a b) Q E H):Hk CN CG vs H Q E
def LD(CN CG:aa):Sp:=fun vs H Q E=>Hk CN CG vs H Q E
theorem scTw:bM ["kind","first","second"] ["kind","first","second"] (aM gL):={}
theorem NS(D:Df K mg "number_of_two" gL ["kind","first","second"] f fd)(Y:Df K mg "number_of_division" eB ["kind","first","second"] fD fdD)(T:Fts K mg CN CG) :
  bA P w K mg base (CXo P w) 2 f fd ["kind","first","second"] (LD CN CG):=by
 have O:bA P w K mg base (CXo P w) 1 fD fdD ["kind","first","second"] (LC CN):=NR Y T;refine D.F.okX scTw (fun vs H Q E h=>?_) (fun U A outer s H vs Q E hr h=>?_)
 ·obtain⟨k,a,b,rfl,_⟩:=h;rfl
 obtain⟨k,a,b,rfl,ha,hb,h⟩:=h;unfold AC at h;refine⟨_,ai (cK (bO eN (pv 0) cb (bX _)) (ay (bN (cV gP (pv 1) (pv 2)))) bS)
  (ai (cK (bO eN (pv 0) cb (bX _)) (ay (bN (cV jS (pv 1) (pv 2)))) bS)
  (ai (cK (bO eN (pv 0) cb (bX _)) (ay (bN (cV rR (pv 1) (pv 2)))) bS)
  (ai (cK (bO eN (pv 0) cb (bX _)) (ay (bN (vS (bO rH (pv 1) (pv 2) (bX _)) aw aw))) bS)
  (ai (cK (bO eN (pv 0) cb (bX _)) (ay (bN (vS (bO eN (pv 1) (pv 2) (bX _)) aw aw))) bS)
  (ay (bN (aL O hr rfl Y.m Y.F.kp Y.b .nil (dP.passes fun _ _ _ z=>z) (au (pv 0) (au (pv 1) (au (pv 2) aj)))))))))),?_⟩
 refine{_,rfl,rfl,_,rfl,gi (fun c=>?_) (fun c=>?_)}
 ·rw[if_pos (uj (ko c))]at h;exact{_,rfl,_,rfl,_,_,rfl,rfl,h}
 rw[if_neg fun z=>kR c (by rw[z])]at h;refine{_,rfl,rfl,_,rfl,gi (fun c=>?_) (fun c=>?_)}
 ·rw[if_pos (uj (ko c))]at h;exact{_,rfl,_,rfl,_,_,rfl,rfl,h}
 rw[if_neg fun z=>kR c (by rw[z])]at h;refine{_,rfl,rfl,_,rfl,gi (fun c=>?_) (fun c=>?_)}
 ·rw[if_pos (uj (ko c))]at h;refine{_,rfl,_,rfl,_,_,rfl,rfl,.inl {?_,?_},h}
  ·unfold Wo at ha;omega
  ·unfold Wo at ha;omega
 rw[if_neg fun z=>kR c (by rw[z])]at h;refine{_,rfl,rfl,_,rfl,gi (fun c=>?_) (fun c=>?_)}
 ·rw[if_pos (uj (ko c))]at h;refine{_,rfl,_,rfl,_,_,rfl,rfl,_,rfl,gi (fun Z=>?_) (fun Z=>?_)}
  ·rw[if_pos (ko Z)]at h;exact h
  ·rw[if_neg (kR Z)]at h;exact h
 rw[if_neg fun z=>kR c (by rw[z])]at h;refine{_,rfl,rfl,_,rfl,gi (fun c=>?_) (fun c=>?_)}
 ·rw[if_pos (uj (ko c))]at h;refine{_,rfl,_,rfl,rfl,_,rfl,gi (fun Z=>?_) (fun Z=>?_)}
  ·rw[if_pos (zk (ko Z))]at h;exact h
  ·rw[if_neg fun z=>kR Z (by rw[z])]at h;exact h
 rw[if_neg fun z=>kR c (by rw[z])]at h;refine{_,rfl,_,rfl,_,rfl,k,a,b,rfl,hb,fun z=>?_,fun W V=>?_,fun W V=>?_}
 ·rw[if_pos z]at h;exact h
 ·rw[if_neg W,if_pos V]at h;exact h
 ·rw[if_neg W,if_neg V]at h;exact h
structure Holds(K:ae)(CS:aa)(bs qs:List Str)(H:Hp)(st gl:aa)(e:zj):Prop where
 ex:∃(dx bd qd:aa) (fs:List (Str×V)) (bk qk:List (Key×V)),H st=some (.ins CS dx fs)/\fs.lookup ("boxes":Str)=some (.ref bd)/\fs.lookup ("queues":Str)=some (.ref qd)/\H bd=some (.dK bk)/\H qd=some (.dK qk) /\
  (∀x∈bs,jL bk (Sum.inr x)=some (.int (e.bx x)))/\(∀x∈qs,∃l xs,jL qk (Sum.inr x)=some (.ref l)/\H l=some (.lst xs)/\xs.length=e.lg x)
 hgl:H gl=some (.lst [.int e.g0,.int e.g1])
inductive CO(K:ae)(CS:aa)(bs qs:List Str)(vs:List V)(H:Hp)(Q:VK)(_e:XK):Prop where
 |mk(v:V)(F:Fm)(st gl:aa)(e:zj)(_:vs=[v,.ref st,.int e.nw,.ref gl])(_:jx bs qs H v F)(_:F.depth<=1)(_:Holds K CS bs qs H st gl e)(_:∀r,ev e F=.ok r->Q (.int r) H):CO K CS bs qs vs H Q _e
def Hl(K:ae)(CS:aa)(bs qs:List Str):Sp:=fun vs H Q Z=>CO K CS bs qs vs H Q Z
theorem scLf:bM ["formula","state","now","got","kind"] ["formula","state","now","got"] (aM gD):={}
theorem Hm:¬(("box":Str)="number")/\¬(("long":Str)="number")/\¬(("long":Str)="box")/\¬(("got":Str)="number")/\¬(("got":Str)="box")/\¬(("got":Str)="long")/\¬(("now":Str)="number")/\¬(("now":Str)="box")/\¬(("now":Str)="long")/\¬(("now":Str)="got"):=by decide +kernel
theorem vh{a b:Str}(h:¬a=b):decide (V.str a=V.str b)=false:=decide_eq_false fun z=>h (V.str.inj z)
theorem EI(a:Str):decide (V.str a=V.str a)=true:=decide_eq_true rfl
theorem oy{c:Bool}{b:Bool}{p q:Prop}(h:c=b)(t:if b=true then p else q):if c=true then p else q:=by
 rw[h];exact t
theorem JW{bs qs:List Str}(D:Df K mg "number_of_leaf" gD ["formula","state","now","got"] f fd)(T:MdT K mg CM CS)(B:Bl mg):bA P w K mg base CX0 1 f fd ["formula","state","now","got"] (Hl K CS bs qs):=by
 refine D.F.ok scLf (fun vs H Q E h=>?_) (fun bG A outer s H vs Q E hr h=>?_)
 ·obtain⟨v,F,st,Z,e,rfl,_⟩:=h;rfl
 obtain⟨v,F,st,Z,e,rfl,I,hd,⟨⟨dx,bd,qd,fs,bk,qk,h1,h2,U,h4,h5,O,V⟩,W⟩,q⟩:=h;have hu:=lN hr;refine⟨_,ai (bh (i:=4) scLf.nd rfl (Or.inl rfl) (bP cF (pv 0) aw (fun _ _=>rfl)))
  (ai (cK (bO eN (pv 4) cb (bX _)) (ay (bN (bP cF (pv 0) aw (fun _ _=>rfl)))) bS)
  (ai (cK (bO eN (pv 4) cb (bX _)) (ay (bN (q8 hu (cW (pv 1) rfl) (bP cF (pv 0) aw (fun _ _=>rfl)) (fun _ _=>rfl)))) bS)
  (ai (cK (bO eN (pv 4) cb (bX _)) (ay (bN (cS ip (by rfl) B.len cA (au (q8 hu (cW (pv 1) rfl) (bP cF (pv 0) aw (fun _ _=>rfl)) (fun _ _=>rfl)) aj)))) bS)
  (ai (cK (bO eN (pv 4) cb (bX _)) (ay (bN (bP cJ (pv 3) (bP cF (pv 0) aw (fun _ _=>rfl)) (fun _ _=>rfl)))) bS)
  (ay (bN (pv 2))))))),?_⟩
 obtain⟨k1,k2,k3,k4,k5,k6,J,k8,k9,Y⟩:=Hm
 cases I with
 |@num t n ht hn=>
  refine{_,rfl,t,_,_,_,rfl,rfl,SqT.of ht,rfl,_,rfl,rfl,_,rfl,oy (EI _) (iH ?_)};exact{_,rfl,t,_,_,_,rfl,rfl,SqT.of ht,rfl,q _ rfl}
 |@box t x ht hx=>
  refine{_,rfl,t,_,_,_,rfl,rfl,SqT.of ht,rfl,_,rfl,rfl,_,rfl,oy (vh k1) (gb ?_)};refine{_,rfl,rfl,_,rfl,oy (EI _) (iH ?_)};exact{_,rfl,st,CS,dx,_,_,rfl,h1,T.clS,T.nB,h2,_,rfl,t,_,_,_,rfl,rfl,SqT.of ht,rfl,bd,_,rfl,(by have z:=pU.k (k:=Sum.inr x) h4;rw[O x hx]at z;exact z),q _ rfl}
 |@long t x ht hx=>
  obtain⟨l,xs,g1,g,M⟩:=V x hx;refine{_,rfl,t,_,_,_,rfl,rfl,SqT.of ht,rfl,_,rfl,rfl,_,rfl,oy (vh k2) (gb ?_)};refine{_,rfl,rfl,_,rfl,oy (vh k3) (gb ?_)};refine{_,rfl,rfl,_,rfl,oy (EI _) (iH ?_)};exact{_,rfl,st,CS,dx,_,_,rfl,h1,T.clS,T.nQ,U,_,rfl,t,_,_,_,rfl,rfl,SqT.of ht,rfl,qd,_,rfl,(by have z:=pU.k (k:=Sum.inr x) h5;rw[g1]at z;exact z),l,xs,rfl,.inl (SqL.of g),q _ (by rw[M];rfl)}
 |@got t j ht=>
  refine{_,rfl,t,_,_,_,rfl,rfl,SqT.of ht,rfl,_,rfl,rfl,_,rfl,oy (vh k4) (gb ?_)};refine{_,rfl,rfl,_,rfl,oy (vh k5) (gb ?_)};refine{_,rfl,rfl,_,rfl,oy (vh k6) (gb ?_)};refine{_,rfl,rfl,_,rfl,oy (EI _) (iH ?_)}
  cases j
  ·exact{_,rfl,_,rfl,t,_,_,_,rfl,rfl,SqT.of ht,rfl,Z,_,_,_,rfl,rfl,SqL.of W,rfl,q _ rfl}
  ·exact{_,rfl,_,rfl,t,_,_,_,rfl,rfl,SqT.of ht,rfl,Z,_,_,_,rfl,rfl,SqL.of W,rfl,q _ rfl}
 |@now t ht=>
  refine{_,rfl,t,_,_,_,rfl,rfl,SqT.of ht,rfl,_,rfl,rfl,_,rfl,oy (vh J) (gb ?_)};refine{_,rfl,rfl,_,rfl,oy (vh k8) (gb ?_)};refine{_,rfl,rfl,_,rfl,oy (vh k9) (gb ?_)};refine{_,rfl,rfl,_,rfl,oy (vh Y) (gb ?_)};exact{_,rfl,q _ rfl}
 |@two t k u v f1 f2 ht hk h1 h2=>
  have z1:0<f1.depth:=by cases f1<;>exact mE _
  unfold Fm.depth at hd;omega
inductive LF(K:ae)(CS CN CG:aa)(bs qs:List Str)(n:Nat)(vs:List V)(H:Hp)(Q:VK)(E:XK):Prop where
 |mk(v:V)(F:Fm)(st gl:aa)(e:zj)(_:vs=[v,.ref st,.int e.nw,.ref gl])(_:jx bs qs H v F)(_:F.depth<=n)(_:Holds K CS bs qs H st gl e)(_:e.Ok bs qs)(_:yt CN CG (ev e F) Q E H):LF K CS CN CG bs qs n vs H Q E
def Hn(K:ae)(CS CN CG:aa)(bs qs:List Str)(n:Nat):Sp:=fun vs H Q E=>LF K CS CN CG bs qs n vs H Q E
theorem Ho:bM ["formula","state","now","got","first","second","number"] ["formula","state","now","got"] (aM lQ):={}
theorem JX{bs qs:List Str}{H:Hp}{v:V}{F:Fm}(h:jx bs qs H v F):(∃t xs,v=.ref t/\H t=some (.tup xs)/\¬(xs.length:Int)=3/\F.depth<=1/\∀e:zj,∃r,ev e F=.ok r) \/
  ∃t k u w f g,v=.ref t/\F=.two k f g/\H t=some (.tup [.str k,u,w])/\k∈CJ/\jx bs qs H u f/\jx bs qs H w g:=by
 cases h with
 |num h1 h2=>exact .inl {_,_,rfl,h1,by show ¬((2:Nat):Int)=3;decide,aD _,fun e=>{_,rfl}}
 |box h1 h2=>exact .inl {_,_,rfl,h1,by show ¬((2:Nat):Int)=3;decide,aD _,fun e=>{_,rfl}}
 |long h1 h2=>exact .inl {_,_,rfl,h1,by show ¬((2:Nat):Int)=3;decide,aD _,fun e=>{_,rfl}}
 |got h1=>exact .inl {_,_,rfl,h1,by show ¬((2:Nat):Int)=3;decide,aD _,fun e=>{_,rfl}}
 |now h1=>exact .inl {_,_,rfl,h1,by show ¬((1:Nat):Int)=3;decide,aD _,fun e=>{_,rfl}}
 |two h1 h2 Y Z=>exact .inr {_,_,_,_,_,_,rfl,rfl,h1,h2,Y,Z}
theorem JY{bs qs:List Str}{n:Nat}(D:Df K mg "worth_of" lQ ["formula","state","now","got"] f fd)(DT:Df K mg "number_of_two" gL ["kind","first","second"] fT fdT)(DD:Df K mg "number_of_division" eB ["kind","first","second"] fD fdD)
  (U:Df K mg "number_of_leaf" gD ["formula","state","now","got"] fL fdL) (T:Fts K mg CN CG) (TM:MdT K mg CM CS) (B:Bl mg) (G:bA P w K mg base (CXo P w) (n+2) f fd ["formula","state","now","got"] (Hn K CS CN CG bs qs n)) :
  bA P w K mg base (CXo P w) (n+3) f fd ["formula","state","now","got"] (Hn K CS CN CG bs qs (n+1)):=by
 have I:bA P w K mg base (CXo P w) 2 fT fdT ["kind","first","second"] (LD CN CG):=NS DT DD T;have GL:bA P w K mg base CX0 1 fL fdL ["formula","state","now","got"] (Hl K CS bs qs):=JW U TM B;refine D.F.okX Ho (fun vs H Q E h=>?_) (fun g A outer s H vs Q E hr h=>?_)
 ·obtain⟨v,F,st,V,e,rfl,_⟩:=h;rfl
 obtain⟨v,F,st,V,e,rfl,O,hd,ho,Y,h⟩:=h;have r2:cQ 2 _:=hr.mono (by omega);have r1:cQ 1 _:=hr.mono (by omega);refine⟨_,ai (cK (bO eN (cS ip (by rfl) B.len cA (au (pv 0) aj)) aw (bX _))
   (ai (bh (i:=4) Ho.nd rfl (Or.inl rfl) (aL G hr rfl D.m D.F.kp D.b .nil (dP.passes fun _ _ _ z=>z) (au (bP cF (pv 0) aw (fun _ _=>rfl)) (au (pv 1) (au (pv 2) (au (pv 3) aj))))))
   (ai (bh (i:=5) Ho.nd rfl (Or.inl rfl) (aL G hr rfl D.m D.F.kp D.b .nil (dP.passes fun _ _ _ z=>z) (au (bP cF (pv 0) aw (fun _ _=>rfl)) (au (pv 1) (au (pv 2) (au (pv 3) aj))))))
   (ay (bh (i:=6) Ho.nd rfl (Or.inl rfl) (aL I r2 rfl DT.m DT.F.kp DT.b .nil (dP.passes fun _ _ _ z=>z) (au (bP cF (pv 0) aw (fun _ _=>rfl)) (au (pv 4) (au (pv 5) aj))))))))
   (ay (bh (i:=6) Ho.nd rfl (Or.inl rfl) (aL GL r1 rfl U.m U.F.kp U.b .nil bC (au (pv 0) (au (pv 1) (au (pv 2) (au (pv 3) aj))))))))
  (ai (cK (bO vV (cS FC (by rfl) B.abs boot_abs (au (pv 6) aj)) (cV tU aw aw) (bX _)) (ay (jB dP rfl rfl T.mG T.xG (au cb aj))) bS)
  (ay (bN (pv 6)))),?_⟩
 have Z:Ei 10 15:={by decide,by decide,by decide};have l1:1<=aB:=by decide
 rcases JX O with⟨t,xs,rfl,ht,hx,J,hv⟩|⟨t,k,u,v',f1,M,rfl,rfl,ht,hk,h1,h2⟩
 ·obtain⟨r,bz⟩:=hv e;refine{_,rfl,t,_,rfl,.inr (SqT.of ht),rfl,_,rfl,gi (fun c=>absurd (zk (ko c)) hx) (fun c=>?_)};refine{_,rfl,_,rfl,_,rfl,_,rfl,.ref t,F,st,V,e,rfl,O,J,ho,fun r' W=>?_};refine{_,rfl,_,rfl,_,_,rfl,rfl,Z,_,_,rfl,rfl,_,rfl,gi (fun c=>?_) (fun c=>?_)}
  ·exact absurd (ko c) (Hi (uS Y O W))
  ·rw[W]at h;exact{_,rfl,h}
 ·have d1:f1.depth<=n:=by
   unfold Fm.depth at hd;omega
  have d2:M.depth<=n:=by
   unfold Fm.depth at hd;omega
  refine{_,rfl,t,_,rfl,.inr (SqT.of ht),rfl,_,rfl,gi (fun c=>?_) (fun c=>absurd rfl (kR c))};refine{_,rfl,t,_,_,_,rfl,rfl,SqT.of ht,rfl,_,rfl,_,rfl,_,rfl,u,f1,st,V,e,rfl,h1,d1,ho,Y,?_};unfold ev at h
  cases e1:ev e f1 with
  |nought=>rw[e1]at h;exact h
  |great=>rw[e1]at h;exact h
  |ok a=>
   rw[e1]at h;refine{_,rfl,t,_,_,_,rfl,rfl,SqT.of ht,rfl,_,rfl,_,rfl,_,rfl,v',M,st,V,e,rfl,h2,d2,ho,Y,?_}
   cases e2:ev e M with
   |nought=>rw[e2]at h;exact h
   |great=>rw[e2]at h;exact h
   |ok b=>
    rw[e2]at h;have h:yt CN CG (cap (AC k a b)) Q E H:=h;refine{_,rfl,t,_,_,_,rfl,rfl,SqT.of ht,rfl,_,rfl,_,rfl,k,a,b,rfl,uS Y h1 e1,uS Y h2 e2,?_}
    cases e3:AC k a b with
    |nought=>rw[e3]at h;exact h
    |great=>rw[e3]at h;exact h
    |ok r=>
     rw[e3]at h;have h':yt CN CG (if 10^15<sW r then .great else .ok r) Q E H:=h;refine{_,rfl,_,rfl,_,_,rfl,rfl,Z,_,_,rfl,rfl,_,rfl,gi (fun c=>?_) (fun c=>?_)}
     ·rw[if_pos (show 10^15<sW r from ko c)]at h';exact⟨l1,h'⟩
     ·rw[if_neg (show ¬10^15<sW r from kR c)]at h';exact{_,rfl,h'}
theorem EJ(F:Fm):0<F.depth:=by cases F<;>exact mE _
theorem LH{bs qs:List Str}(D:Df K mg "worth_of" lQ ["formula","state","now","got"] f fd)(DT:Df K mg "number_of_two" gL ["kind","first","second"] fT fdT)(Z:Df K mg "number_of_division" eB ["kind","first","second"] fD fdD)
  (V:Df K mg "number_of_leaf" gD ["formula","state","now","got"] fL fdL) (T:Fts K mg CN CG) (W:MdT K mg CM CS) (B:Bl mg):∀n:Nat,bA P w K mg base (CXo P w) (n+2) f fd ["formula","state","now","got"] (Hn K CS CN CG bs qs n)
 |0=>by
  have Y:∀vs H Q E,¬Hn K CS CN CG bs qs 0 vs H Q E:=fun vs H Q E h=>by
   obtain⟨v,F,st,U,e,_,_,hd,_⟩:=h;have:=EJ F;omega
  exact{fun vs H Q E h=>absurd h (Y vs H Q E),fun A outer s H args us vs Q E _ _ _ _ h=>absurd h (Y vs H Q E)}
 |n+1=>JY D DT Z V T W B (LH D DT Z V T W B n)
end
mutual
inductive Dd where
 |put(x:Str)(f:Fm)
 |push(q:Str)(f:Fm)
 |pull(q x:Str)(o:Ds)
 |draw(x:Str)(f:Fm)
 |send(to:Int)(sg:Str)(sp:Fm)(rk:Int)(a b:Fm)
 |ife(f:Fm)(t e:Ds)
 |fin
inductive Ds where
 |nil
 |cons(d:Dd)(r:Ds)
end
inductive Flt where
 |nought
 |great
 |full
 |dry
 |span
 |late
structure Ev where
 t:Int
 r:Int
 fr:Int
 c:Int
 to:Int
 sg:Str
 a:Int
 b:Int
structure Wk where
 bx:List (Str×Int)
 qu:List (Str×List Int)
 dr:Nat
 se:Int
 wr:List Str
 out:List Ev
 en:Bool
 rk:List Fm
 qn:List Str
def Wk.len(w:Wk):Nat:=w.out.length+w.rk.length
def wM(ps:List (Str×Int))(x:Str):Int:=(ps.lookup x).getD 0
def jN(ps:List (Str×List Int))(x:Str):List Int:=(ps.lookup x).getD []
def pA{Z:Type}(ps:List (Str×Z))(x:Str)(n:Z):List (Str×Z):=ps.map fun p=>if p.1=x then (p.1,n) else p
def nA(xs:List Str)(x:Str):List Str:=if x∈xs then xs else xs++[x]
def AD(h:Ev)(w:Wk):zj:={wM w.bx,fun q=>(jN w.qu q).length,h.a,h.b,h.t}
def rck(h:Ev)(w:Wk)(f:Fm)(k:Wk->Int->Except Flt Wk):Except Flt Wk:=match ev (AD h w) f with
 |.ok n=>k {w with rk:=w.rk++[f]} n
 |.nought=>.error .nought
 |.great=>.error .great
def Hq(w:Wk)(x:Str)(n:Int):Wk:={w with bx:=pA w.bx x n,wr:=nA w.wr x}
def sendW(h:Ev)(w:Wk)(to:Int)(sg:Str)(rk t a b:Int):Wk:={w with se:=w.se+1,out:=w.out++[⟨t,rk,h.to,w.se,to,sg,a,b⟩]}
mutual
def doD(h:Ev)(ds:List Int):Dd->Wk->Except Flt Wk
 |.put x f,w=>rck h w f fun w n=>.ok (Hq w x n)
 |.push q f,w=>rck h w f fun w n=>if 30<=(jN w.qu q).length then .error .full else .ok {w with qu:=pA w.qu q (jN w.qu q++[n]),wr:=nA w.wr q,qn:=nA w.qn q}
 |.pull q x o,w=>match jN w.qu q with
  | []=>doS h ds o {w with qn:=nA w.qn q}
  |n::ns=>.ok {w with qu:=pA w.qu q ns,bx:=pA w.bx x n,wr:=nA (nA w.wr x) q,qn:=nA w.qn q}
 |.draw x f,w=>rck h w f fun w n=>if n<1 then .error .nought else if ds=[] then .error .dry else .ok (Hq {w with dr:=w.dr+1} x (ds.getD (w.dr%ds.length) 0%n))
 |.send to sg sp rk a b,w=>rck h w sp fun w n=>if n<1\/10^6<n then .error .span else rck h w a fun w x=>rck h w b fun w y=>if 10^12<h.t+n then .error .late else .ok (sendW h w to sg rk (h.t+n) x y)
 |.ife f t e,w=>rck h w f fun w n=>if n=0 then doS h ds e w else doS h ds t w
 |.fin,w=>.ok {w with en:=true}
def doS(h:Ev)(ds:List Int):Ds->Wk->Except Flt Wk
 |.nil,w=>.ok w
 |.cons d r,w=>match doD h ds d w with
  |.ok Z=>doS h ds r Z
  |.error e=>.error e
end
mutual
def Dd.deep:Dd->Nat
 |.pull _ _ o=>o.deep+1
 |.ife _ t e=>max t.deep e.deep+1
 |_=>0
def Ds.deep:Ds->Nat
 |.nil=>0
 |.cons d r=>max d.deep r.deep
end
def mU(H:Hp)(R:List V->Prop)(v:V):Prop:=∃l vs,v=.ref l/\H l=some (.lst vs)/\vs.length<1000/\R vs
def FmI(bs qs:List Str)(H:Hp)(v:V)(f:Fm):Prop:=jx bs qs H v f/\f.depth<=15
mutual
def eM(bs qs:List Str)(H:Hp):Dd->V->Prop
 |.put x f,v=>∃t u,v=.ref t/\H t=some (.tup [.str "put",.str x,u])/\x∈bs/\FmI bs qs H u f
 |.push q f,v=>∃t u,v=.ref t/\H t=some (.tup [.str "push",.str q,u])/\q∈qs/\FmI bs qs H u f
 |.pull q x o,v=>∃t u,v=.ref t/\H t=some (.tup [.str "pull",.str q,.str x,u])/\q∈qs/\x∈bs/\mU H (fv bs qs H o) u
 |.draw x f,v=>∃t u,v=.ref t/\H t=some (.tup [.str "draw",.str x,u])/\x∈bs/\FmI bs qs H u f
 |.send to sg sp rk a b,v=>∃t u u1 u2,v=.ref t/\H t=some (.tup [.str "send",.int to,.str sg,u,.int rk,u1,u2])/\FmI bs qs H u sp/\FmI bs qs H u1 a/\FmI bs qs H u2 b
 |.ife f x y,v=>∃t u u1 u2,v=.ref t/\H t=some (.tup [.str "if",u,u1,u2])/\FmI bs qs H u f/\mU H (fv bs qs H x) u1/\mU H (fv bs qs H y) u2
 |.fin,v=>∃t,v=.ref t/\H t=some (.tup [.str "end"])
def fv(bs qs:List Str)(H:Hp):Ds->List V->Prop
 |.nil,vs=>vs=[]
 |.cons d r,vs=>∃v Z,vs=v::Z/\eM bs qs H d v/\fv bs qs H r Z
end
theorem mU.same{H H':Hp}(s:aV H H'){R Z:List V->Prop}(f:∀vs,R vs->Z vs){v:V}(h:mU H R v):mU H' Z v:=by
 obtain⟨l,vs,e,h1,h2,Y⟩:=h;exact{l,vs,e,s _ _ h1,h2,f vs Y}
theorem FmI.same{bs qs:List Str}{H H':Hp}(s:aV H H'){v:V}{f:Fm}(h:FmI bs qs H v f):FmI bs qs H' v f:={h.1.same s,h.2}
mutual
theorem eM.same{bs qs:List Str}{H H':Hp}(s:aV H H'):∀(d:Dd) (v:V),eM bs qs H d v->eM bs qs H' d v
 |.put x f,v,h=>by
  obtain⟨t,u,e,h1,h2,Z⟩:=(by simpa only[eM] using h);simp only[eM];exact{t,u,e,s _ _ h1,h2,Z.same s}
 |.push q f,v,h=>by
  obtain⟨t,u,e,h1,h2,Z⟩:=(by simpa only[eM] using h);simp only[eM];exact{t,u,e,s _ _ h1,h2,Z.same s}
 |.pull q x o,v,h=>by
  obtain⟨t,u,e,h1,h2,Z,Y⟩:=(by simpa only[eM] using h);simp only[eM];exact{t,u,e,s _ _ h1,h2,Z,Y.same s (fv.same s o)}
 |.draw x f,v,h=>by
  obtain⟨t,u,e,h1,h2,Z⟩:=(by simpa only[eM] using h);simp only[eM];exact{t,u,e,s _ _ h1,h2,Z.same s}
 |.send to sg sp rk a b,v,h=>by
  obtain⟨t,u,u1,u2,e,h1,h2,Z,Y⟩:=(by simpa only[eM] using h);simp only[eM];exact{t,u,u1,u2,e,s _ _ h1,h2.same s,Z.same s,Y.same s}
 |.ife f x y,v,h=>by
  obtain⟨t,u,u1,u2,e,h1,h2,Z,Y⟩:=(by simpa only[eM] using h);simp only[eM];exact{t,u,u1,u2,e,s _ _ h1,h2.same s,Z.same s (fv.same s x),Y.same s (fv.same s y)}
 |.fin,v,h=>by
  obtain⟨t,e,h1⟩:=(by simpa only[eM] using h);simp only[eM];exact{t,e,s _ _ h1}
theorem fv.same{bs qs:List Str}{H H':Hp}(s:aV H H'):∀(d:Ds) (vs:List V),fv bs qs H d vs->fv bs qs H' d vs
 |.nil,vs,h=>by
  simpa only[fv] using h
 |.cons d r,vs,h=>by
  obtain⟨v,Z,e,h1,h2⟩:=(by simpa only[fv] using h);simp only[fv];exact{v,Z,e,eM.same s d v h1,fv.same s r Z h2}
end
def hZ(H:Hp)(v:V)(e:Ev):Prop:=∃t k,v=.ref t/\H t=some (.tup [.ref k,.int e.to,.str e.sg,.int e.a,.int e.b])/\H k=some (.tup [.int e.t,.int e.r,.int e.fr,.int e.c])
theorem hZ.same{H H':Hp}(s:aV H H'){v:V}{e:Ev}(h:hZ H v e):hZ H' v e:=by
 obtain⟨t,k,e1,h1,h2⟩:=h;exact{t,k,e1,s _ _ h1,s _ _ h2}
def boK(ps:List (Str×Int)):List (Key×V):=ps.map fun p=>((Sum.inr p.1:Key),V.int p.2)
def quK(ps:List (Str×aa)):List (Key×V):=ps.map fun p=>((Sum.inr p.1:Key),V.ref p.2)
def wrK(xs:List Str):List (Key×V):=xs.map fun x=>((Sum.inr x:Key),V.bl true)
theorem sX{Z:Type}(g:Z->V)(x:Str):∀ps:List (Str×Z),jL (ps.map fun p=>((Sum.inr p.1:Key),g p.2)) (Sum.inr x)=(ps.lookup x).map g
 | []=>rfl
 |p::ps=>by
  rw[b9]
  by_cases c:p.1=x
  ·rw[qi (by rw[c])];obtain⟨a,b⟩:=p;dsimp only at c;subst c;rw[bQ];rfl
  ·rw[qj (fun z=>c (mI z)),sX g x ps];obtain⟨a,b⟩:=p;dsimp only at c;rw[cE];have:(x==a)=false:=beq_eq_false_iff_ne.mpr fun z=>c z.symm;rw[this]
theorem JZ{Z:Type}(g:Z->V)(x:Str)(n:Z){ps:List (Str×Z)}(h:(ps.lookup x).isSome=true):ja (ps.map fun p=>((Sum.inr p.1:Key),g p.2)) (Sum.inr x) (g n)=(pA ps x n).map fun p=>((Sum.inr p.1:Key),g p.2):=by
 unfold ja;rw[kf,sX,m9,h,if_pos rfl];unfold pA;rw[dI,dI];apply gC;intro p _
 by_cases c:p.1=x
 ·simp only[rF,c,if_true]
 ·simp only[rF,if_neg c,if_neg (fun z=>c (mI z):¬(Sum.inr p.1:Key)=Sum.inr x)]
theorem CQ(xs:List Str)(x:Str):jL (wrK xs) (Sum.inr x)=if x∈xs then some (.bl true) else none:=by
 induction xs with
 |nil=>rfl
 |cons y xs Z=>
  unfold wrK at Z |-;rw[b9]
  by_cases c:y=x
  ·rw[qi (by rw[c]),if_pos (by rw[c];exact aC)]
  ·rw[qj (fun z=>c (mI z)),Z]
   by_cases m:x∈xs
   ·rw[if_pos m,if_pos (ah _ m)]
   ·rw[if_neg m,if_neg];intro z
    rcases ar.mp z with z|z
    ·exact c z.symm
    ·exact m z
theorem CT(xs:List Str)(x:Str):ja (wrK xs) (Sum.inr x) (.bl true)=wrK (nA xs x):=by
 unfold ja;rw[kf,CQ]
 by_cases m:x∈xs
 ·rw[if_pos m];unfold nA;rw[if_pos m];show (if true=true then _ else _)=_;rw[if_pos rfl];unfold wrK;rw[dI];apply gC;intro y _
  by_cases c:y=x
  ·simp only[rF,c,if_true]
  ·simp only[rF,if_neg (fun z=>c (mI z):¬(Sum.inr y:Key)=Sum.inr x)]
 ·rw[if_neg m];unfold nA;rw[if_neg m];show (if false=true then _ else _)=_;rw[if_neg (by decide)];unfold wrK;rw[bT];rfl
theorem yu{Z:Type}(ps:List (Str×Z))(x:Str)(n:Z):(pA ps x n).map (·.1)=ps.map (·.1):=by
 unfold pA;rw[dI];apply gC;intro p _;show (if p.1=x then (p.1,n) else p).1=p.1
 split<;>rfl
theorem oz{Z:Type}{x:Str}:∀{ps:List (Str×Z)},x∈ps.map (·.1)->∃a,ps.lookup x=some a/\(x,a)∈ps
 | [],h=>by cases h
 |p::ps,h=>by
  obtain⟨k,a⟩:=p
  by_cases c:x=k
  ·subst c;exact⟨a,bQ,aC⟩
  ·have h':x∈ps.map (·.1):=by
    rcases ar.mp h with z|z
    ·exact absurd z c
    ·exact z
   obtain⟨b,h1,h2⟩:=oz h';refine{b,?_,ah _ h2};rw[cE,beq_eq_false_iff_ne.mpr c];exact h1
theorem AE{Z:Type}{x:Str}{n:Z}{ps:List (Str×Z)}{q:Str×Z}(h:q∈pA ps x n):q∈ps\/q.2=n:=by
 obtain⟨p,hp,e⟩:=cB.mp h
 by_cases c:p.1=x
 ·rw[if_pos c]at e;subst e;exact .inr rfl
 ·rw[if_neg c]at e;subst e;exact .inl hp
structure DT(K:ae)(mg:Str->Option af)(CD:aa):Prop where
 cl:Cls K CD
 nM:eI K CD "machine"
 nH:eI K CD "happening"
 nS:eI K CD "state"
 nW:eI K CD "written"
 nO:eI K CD "outgoing"
 nE:eI K CD "ends"
 nR:eI K CD "reckoned"
 nQ:eI K CD "queued"
 mD:mg "Doing"=some (.ref CD)
def dF(m h:V)(st wd od:aa)(en:Bool)(rd ud:aa):List (Str×V):=[("machine",m),("happening",h),("state",.ref st),("written",.ref wd),("outgoing",.ref od),("ends",.bl en),("reckoned",.ref rd),("queued",.ref ud)]
abbrev BQ:List Str:=["machine","happening","state","written","outgoing","ends","reckoned","queued"]
theorem NT(m h:V)(st wd od:aa)(en:Bool)(rd ud:aa):(dF m h st wd od en rd ud).lookup ("machine":Str)=some m:=bQ
theorem dR{k x:Str}{v:V}{r:List (Str×V)}(h:(x==k)=false):((k,v)::r).lookup x=r.lookup x:=by rw[cE,h]
theorem J0(m h:V)(st wd od:aa)(en:Bool)(rd ud:aa):(dF m h st wd od en rd ud).lookup ("happening":Str)=some h:=by
 unfold dF;rw[dR (by decide +kernel),bQ]
theorem xR(m h:V)(st wd od:aa)(en:Bool)(rd ud:aa):(dF m h st wd od en rd ud).lookup ("state":Str)=some (.ref st):=by
 unfold dF;rw[dR (by decide +kernel),dR (by decide +kernel),bQ]
theorem Hr(m h:V)(st wd od:aa)(en:Bool)(rd ud:aa):(dF m h st wd od en rd ud).lookup ("written":Str)=some (.ref wd):=by
 unfold dF;rw[dR (by decide +kernel),dR (by decide +kernel),dR (by decide +kernel),bQ]
theorem dF_o(m h:V)(st wd od:aa)(en:Bool)(rd ud:aa):(dF m h st wd od en rd ud).lookup ("outgoing":Str)=some (.ref od):=by
 unfold dF;rw[dR (by decide +kernel),dR (by decide +kernel),dR (by decide +kernel),dR (by decide +kernel),bQ]
theorem dF_e(m h:V)(st wd od:aa)(en:Bool)(rd ud:aa):(dF m h st wd od en rd ud).lookup ("ends":Str)=some (.bl en):=by
 unfold dF;rw[dR (by decide +kernel),dR (by decide +kernel),dR (by decide +kernel),dR (by decide +kernel),dR (by decide +kernel),bQ]
theorem dF_r(m h:V)(st wd od:aa)(en:Bool)(rd ud:aa):(dF m h st wd od en rd ud).lookup ("reckoned":Str)=some (.ref rd):=by
 unfold dF;rw[dR (by decide +kernel),dR (by decide +kernel),dR (by decide +kernel),dR (by decide +kernel),dR (by decide +kernel),dR (by decide +kernel),bQ]
theorem dF_u(m h:V)(st wd od:aa)(en:Bool)(rd ud:aa):(dF m h st wd od en rd ud).lookup ("queued":Str)=some (.ref ud):=by
 unfold dF;rw[dR (by decide +kernel),dR (by decide +kernel),dR (by decide +kernel),dR (by decide +kernel),dR (by decide +kernel),dR (by decide +kernel),dR (by decide +kernel),bQ]
theorem pO(m h:V)(st wd od:aa)(en:Bool)(rd ud:aa){x:Str}(hx:BQ.contains x=false):(dF m h st wd od en rd ud).lookup x=none:=by
 have z:∀k∈BQ,(x==k)=false:=fun k hk=>beq_eq_false_iff_ne.mpr fun e=>by
  rw[e,kA.mpr hk]at hx
  cases hx
 unfold dF;rw[dR (z _ (by simp)),dR (z _ (by simp)),dR (z _ (by simp)),dR (z _ (by simp)),dR (z _ (by simp)),dR (z _ (by simp)),dR (z _ (by simp)),dR (z _ (by simp))];rfl
theorem sne{a b:Str}(h:(a==b)=false):¬a=b:=fun e=>by
 rw[e,beq_self_eq_true]at h
 cases h
theorem NU(m h:V)(st wd od:aa)(en:Bool)(rd ud:aa):cH "queued" (.ref ud) (cH "reckoned" (.ref rd) (cH "ends" (.bl en) (cH "outgoing" (.ref od) (cH "written" (.ref wd) (cH "state" (.ref st) (cH "happening" h (cH "machine" m [])))))))=dF m h st wd od en rd ud:=by
 simp only[dF,cH,if_neg (sne (a:="machine") (b:="happening") (by decide +kernel)),if_neg (sne (a:="machine") (b:="state") (by decide +kernel)),if_neg (sne (a:="machine") (b:="written") (by decide +kernel)),if_neg (sne (a:="machine") (b:="outgoing") (by decide +kernel)),if_neg (sne (a:="machine") (b:="ends") (by decide +kernel)),if_neg (sne (a:="machine") (b:="reckoned") (by decide +kernel)),if_neg (sne (a:="machine") (b:="queued") (by decide +kernel)),if_neg (sne (a:="happening") (b:="state") (by decide +kernel)),if_neg (sne (a:="happening") (b:="written") (by decide +kernel)),if_neg (sne (a:="happening") (b:="outgoing") (by decide +kernel)),if_neg (sne (a:="happening") (b:="ends") (by decide +kernel)),if_neg (sne (a:="happening") (b:="reckoned") (by decide +kernel)),if_neg (sne (a:="happening") (b:="queued") (by decide +kernel)),if_neg (sne (a:="state") (b:="written") (by decide +kernel)),if_neg (sne (a:="state") (b:="outgoing") (by decide +kernel)),if_neg (sne (a:="state") (b:="ends") (by decide +kernel)),if_neg (sne (a:="state") (b:="reckoned") (by decide +kernel)),if_neg (sne (a:="state") (b:="queued") (by decide +kernel)),if_neg (sne (a:="written") (b:="outgoing") (by decide +kernel)),if_neg (sne (a:="written") (b:="ends") (by decide +kernel)),if_neg (sne (a:="written") (b:="reckoned") (by decide +kernel)),if_neg (sne (a:="written") (b:="queued") (by decide +kernel)),if_neg (sne (a:="outgoing") (b:="ends") (by decide +kernel)),if_neg (sne (a:="outgoing") (b:="reckoned") (by decide +kernel)),if_neg (sne (a:="outgoing") (b:="queued") (by decide +kernel)),if_neg (sne (a:="ends") (b:="reckoned") (by decide +kernel)),if_neg (sne (a:="ends") (b:="queued") (by decide +kernel)),if_neg (sne (a:="reckoned") (b:="queued") (by decide +kernel))]
theorem NV(m h:V)(st wd od:aa)(en Z:Bool)(rd ud:aa):cH "ends" (.bl Z) (dF m h st wd od en rd ud)=dF m h st wd od Z rd ud:=by
 simp only[dF,cH,if_neg (sne (a:="machine") (b:="ends") (by decide +kernel)),if_neg (sne (a:="happening") (b:="ends") (by decide +kernel)),if_neg (sne (a:="state") (b:="ends") (by decide +kernel)),if_neg (sne (a:="written") (b:="ends") (by decide +kernel)),if_neg (sne (a:="outgoing") (b:="ends") (by decide +kernel)),if_true]
theorem j0(b q d e:V):pz b q d e=([("boxes",b),("queues",q),("drawn",d),("sent",e)]:List (Str×V)):=by
 simp only[pz,cH,if_neg (sne (a:="boxes") (b:="queues") (by decide +kernel)),if_neg (sne (a:="boxes") (b:="drawn") (by decide +kernel)),if_neg (sne (a:="boxes") (b:="sent") (by decide +kernel)),if_neg (sne (a:="queues") (b:="drawn") (by decide +kernel)),if_neg (sne (a:="queues") (b:="sent") (by decide +kernel)),if_neg (sne (a:="drawn") (b:="sent") (by decide +kernel))]
theorem NW(b q d e d':V):cH "drawn" d' (pz b q d e)=pz b q d' e:=by
 rw[j0,j0];simp only[cH,if_neg (sne (a:="boxes") (b:="drawn") (by decide +kernel)),if_neg (sne (a:="queues") (b:="drawn") (by decide +kernel)),if_true]
theorem NX(b q d e Z:V):cH "sent" Z (pz b q d e)=pz b q d Z:=by
 rw[j0,j0];simp only[cH,if_neg (sne (a:="boxes") (b:="sent") (by decide +kernel)),if_neg (sne (a:="queues") (b:="sent") (by decide +kernel)),if_neg (sne (a:="drawn") (b:="sent") (by decide +kernel)),if_true]
theorem J6(b q d e:V):(pz b q d e).lookup ("boxes":Str)=some b:=by rw[j0,bQ]
theorem Kc(b q d e:V):(pz b q d e).lookup ("queues":Str)=some q:=by rw[j0,dR (by decide +kernel),bQ]
theorem NY(b q d e:V):(pz b q d e).lookup ("drawn":Str)=some d:=by rw[j0,dR (by decide +kernel),dR (by decide +kernel),bQ]
theorem NZ(b q d e:V):(pz b q d e).lookup ("sent":Str)=some e:=by rw[j0,dR (by decide +kernel),dR (by decide +kernel),dR (by decide +kernel),bQ]
theorem st_no(b q d e:V){x:Str}(hx:(["boxes","queues","drawn","sent"]:List Str).contains x=false):(pz b q d e).lookup x=none:=by
 have z:∀k∈(["boxes","queues","drawn","sent"]:List Str),(x==k)=false:=fun k hk=>beq_eq_false_iff_ne.mpr fun e=>by
  rw[e,kA.mpr hk]at hx
  cases hx
 rw[j0,dR (z _ (by simp)),dR (z _ (by simp)),dR (z _ (by simp)),dR (z _ (by simp))];rfl
theorem Hs(b q d e:V):(pz b q d e).length<1000:=by
 rw[j0];show 4<1000;decide
theorem N0(m h:V)(st wd od:aa)(en:Bool)(rd ud:aa):(dF m h st wd od en rd ud).length<1000:=by show 8<1000;decide
structure Lay where
 d:aa
 dx:aa
 st:aa
 dxs:aa
 bd:aa
 qd:aa
 wd:aa
 od:aa
 rd:aa
 ud:aa
 m:V
 hv:V
 qa:List (Str×aa)
def Lay.all(L:Lay):List aa:=L.d::L.st::L.bd::L.qd::L.wd::L.od::L.rd::L.ud::L.qa.map (·.2)
def gE(G:Hp):List (Str×aa)->List (Str×List Int)->Prop:=aP fun p q=>p.1=q.1/\G p.2=some (.lst (q.2.map V.int))
structure qK(bs qs:List Str)(w:Wk):Prop where
 kb:w.bx.map (·.1)=bs
 kq:w.qu.map (·.1)=qs
 nb:bs.Nodup
 nq:qs.Nodup
 wb:∀p∈w.bx,Wo p.2
 wq:∀p∈w.qu,p.2.length<=30/\∀n∈p.2,Wo n
 nw:w.wr.Nodup
 sw:∀x∈w.wr,x∈bs++qs
 nu:w.qn.Nodup
 su:∀x∈w.qn,x∈bs++qs
 wo:∀e∈w.out,Wo e.a/\Wo e.b
 fw:(bs++qs).length<100
structure Dg(CD CS:aa)(bs qs:List Str)(H0 G:Hp)(L:Lay)(h:Ev)(ds:List Int)(w:Wk):Prop where
 sm:aV H0 G
 hd:G L.d=some (.ins CD L.dx (dF L.m L.hv L.st L.wd L.od w.en L.rd L.ud))
 hst:G L.st=some (.ins CS L.dxs (pz (.ref L.bd) (.ref L.qd) (.int w.dr) (.int w.se)))
 hb:G L.bd=some (.dK (boK w.bx))
 hq:G L.qd=some (.dK (quK L.qa))
 hl:gE G L.qa w.qu
 hw:G L.wd=some (.dK (wrK w.wr))
 ho:∃vs,G L.od=some (.lst vs)/\aP (hZ G) vs w.out
 hr:∃rs,G L.rd=some (.lst rs)/\aP (FmI bs qs H0) rs w.rk
 hu:G L.ud=some (.dK (wrK w.qn))
 hh:hZ H0 L.hv h
 hm:∃t x1 x2 x3 x4 dl,L.m=.ref t/\H0 t=some (.tup [x1,x2,x3,.ref dl,x4])/\H0 dl=some (.lst (ds.map V.int))
 nd:L.all.Nodup
 fr:∀a∈L.all,H0 a=none
 ok:qK bs qs w
 wt:Wo h.t
 wa:Wo h.a
 wb:Wo h.b
section
variable{CD CS:aa}{bs qs:List Str}{H0 G G':Hp}{L:Lay}{h:Ev}{ds:List Int}{w:Wk}
theorem gE.keep(k:∀a u,G a=some u->a∈L.qa.map (·.2)->G' a=some u){qa:List (Str×aa)}{qu:List (Str×List Int)}(sub:∀p∈qa,p∈L.qa)(q:gE G qa qu):gE G' qa qu:=by
 unfold gE at q |-
 induction q with
 |nil=>exact .nil
 |cons a _ Z=>exact .cons {a.1,k _ _ a.2 (cB.mpr {_,sub _ aC,rfl})} (Z fun p hp=>sub p (ah _ hp))
theorem Paired.mono{Z Y:Type}{R S:Z->Y->Prop}(f:∀a b,R a b->S a b){xs:List Z}{ys:List Y}(r:aP R xs ys):aP S xs ys:=L2.Paired.imp' f r
theorem Dg.same(g:Dg CD CS bs qs H0 G L h ds w)(s:aV G G'):Dg CD CS bs qs H0 G' L h ds w:=by
 obtain⟨vs,Y,Z⟩:=g.ho;obtain⟨rs,r1,r2⟩:=g.hr;exact{g.sm.trans s,s _ _ g.hd,s _ _ g.hst,s _ _ g.hb,s _ _ g.hq,g.hl.keep (L:=L) (fun a u e _=>s _ _ e) (fun _ hp=>hp),s _ _ g.hw,{vs,s _ _ Y,Paired.mono (fun _ _ z=>z.same s) Z},{rs,s _ _ r1,r2},s _ _ g.hu,g.hh,g.hm,g.nd,g.fr,g.ok,g.wt,g.wa,g.wb}
structure Lay.Ne(L:Lay):Prop where
 ds:L.d≠L.st
 db:L.d≠L.bd
 dq:L.d≠L.qd
 dw:L.d≠L.wd
 do_:L.d≠L.od
 dr:L.d≠L.rd
 du:L.d≠L.ud
 dl:∀a∈L.qa.map (·.2),L.d≠a
 sb:L.st≠L.bd
 sq:L.st≠L.qd
 sw:L.st≠L.wd
 so:L.st≠L.od
 sr:L.st≠L.rd
 su:L.st≠L.ud
 sl:∀a∈L.qa.map (·.2),L.st≠a
 bq:L.bd≠L.qd
 bw:L.bd≠L.wd
 bo:L.bd≠L.od
 br:L.bd≠L.rd
 bu:L.bd≠L.ud
 bl:∀a∈L.qa.map (·.2),L.bd≠a
 qw:L.qd≠L.wd
 qo:L.qd≠L.od
 qr:L.qd≠L.rd
 qu:L.qd≠L.ud
 ql:∀a∈L.qa.map (·.2),L.qd≠a
 wo:L.wd≠L.od
 wr:L.wd≠L.rd
 wu:L.wd≠L.ud
 wl:∀a∈L.qa.map (·.2),L.wd≠a
 or:L.od≠L.rd
 ou:L.od≠L.ud
 ol:∀a∈L.qa.map (·.2),L.od≠a
 ru:L.rd≠L.ud
 rl:∀a∈L.qa.map (·.2),L.rd≠a
 ul:∀a∈L.qa.map (·.2),L.ud≠a
 ll:(L.qa.map (·.2)).Nodup
theorem Lay.ne(nd:L.all.Nodup):L.Ne:=by
 unfold Lay.all at nd;have cut:∀{a:aa} {xs:List aa},(a::xs).Nodup->(∀b∈xs,a≠b)/\xs.Nodup:=fun {a xs} z=>by
  obtain⟨Y,Z⟩:=cG.mp z;exact{fun b hb e=>Y (by rw[e];exact hb),Z}
 obtain⟨a1,nd⟩:=cut nd;obtain⟨a2,nd⟩:=cut nd;obtain⟨a3,nd⟩:=cut nd;obtain⟨a4,nd⟩:=cut nd;obtain⟨a5,nd⟩:=cut nd;obtain⟨a6,nd⟩:=cut nd;obtain⟨a7,nd⟩:=cut nd;obtain⟨a8,nd⟩:=cut nd;have i1:∀{b:aa} {xs:List aa},b∈b::xs:=aC;have i2:∀{a b:aa} {xs:List aa},b∈xs->b∈a::xs:=fun z=>ah _ z;exact{a1 _ i1,a1 _ (i2 i1),a1 _ (i2 (i2 i1)),a1 _ (i2 (i2 (i2 i1))),a1 _ (i2 (i2 (i2 (i2 i1)))),a1 _ (i2 (i2 (i2 (i2 (i2 i1))))),a1 _ (i2 (i2 (i2 (i2 (i2 (i2 i1)))))),fun a ha=>a1 _ (i2 (i2 (i2 (i2 (i2 (i2 (i2 ha))))))),a2 _ i1,a2 _ (i2 i1),a2 _ (i2 (i2 i1)),a2 _ (i2 (i2 (i2 i1))),a2 _ (i2 (i2 (i2 (i2 i1)))),a2 _ (i2 (i2 (i2 (i2 (i2 i1))))),fun a ha=>a2 _ (i2 (i2 (i2 (i2 (i2 (i2 ha)))))),a3 _ i1,a3 _ (i2 i1),a3 _ (i2 (i2 i1)),a3 _ (i2 (i2 (i2 i1))),a3 _ (i2 (i2 (i2 (i2 i1)))),fun a ha=>a3 _ (i2 (i2 (i2 (i2 (i2 ha))))),a4 _ i1,a4 _ (i2 i1),a4 _ (i2 (i2 i1)),a4 _ (i2 (i2 (i2 i1))),fun a ha=>a4 _ (i2 (i2 (i2 (i2 ha)))),a5 _ i1,a5 _ (i2 i1),a5 _ (i2 (i2 i1)),fun a ha=>a5 _ (i2 (i2 (i2 ha))),a6 _ i1,a6 _ (i2 i1),fun a ha=>a6 _ (i2 (i2 ha)),a7 _ i1,fun a ha=>a7 _ (i2 ha),fun a ha=>a8 _ ha,nd}
theorem mV{a:aa}{o:HO}(nt:∀xs,G a≠some (.tup xs)){vs:List V}{es:List Ev}(r:aP (hZ G) vs es):aP (hZ (upd G a o)) vs es:=
 Paired.mono (fun v e z=>by
  obtain⟨t,k,e1,h1,h2⟩:=z;refine{t,k,e1,?_,?_}
  ·rw[aO fun y=>nt _ (by rw[<- y];exact h1)];exact h1
  ·rw[aO fun y=>nt _ (by rw[<- y];exact h2)];exact h2) r
theorem Dg.sm_upd(g:Dg CD CS bs qs H0 G L h ds w){a:aa}(ha:a∈L.all)(o:HO):aV H0 (upd G a o):=fun b u e=>by
 rw[aO (av e (g.fr a ha))];exact g.sm _ _ e
theorem in_d:L.d∈L.all:=aC
theorem LI:L.st∈L.all:=ah _ aC
theorem LJ:L.bd∈L.all:=ah _ (ah _ aC)
theorem in_qd:L.qd∈L.all:=ah _ (ah _ (ah _ aC))
theorem in_wd:L.wd∈L.all:=ah _ (ah _ (ah _ (ah _ aC)))
theorem LK:L.od∈L.all:=ah _ (ah _ (ah _ (ah _ (ah _ aC))))
theorem in_rd:L.rd∈L.all:=ah _ (ah _ (ah _ (ah _ (ah _ (ah _ aC)))))
theorem in_ud:L.ud∈L.all:=ah _ (ah _ (ah _ (ah _ (ah _ (ah _ (ah _ aC))))))
theorem in_l{a:aa}(h:a∈L.qa.map (·.2)):a∈L.all:=ah _ (ah _ (ah _ (ah _ (ah _ (ah _ (ah _ (ah _ h)))))))
theorem aS{o o':HO}{a b:aa}(e:G a=some o)(n:a≠b):upd G b o' a=some o:=by rw[aO n];exact e
theorem mX{o:HO}{a:aa}(e:G a=some o)(n:∀xs,o≠.tup xs):∀xs,G a≠some (.tup xs):=fun xs z=>by
 rw[e]at z
 cases z;exact n xs rfl
theorem Dg.box(g:Dg CD CS bs qs H0 G L h ds w){x:Str}{n:Int}(Z:Wo n):Dg CD CS bs qs H0 (upd G L.bd (.dK (boK (pA w.bx x n)))) L h ds {w with bx:=pA w.bx x n}:=by
 have N:=Lay.ne g.nd;obtain⟨vs,Y,W⟩:=g.ho;obtain⟨rs,r1,r2⟩:=g.hr;refine{g.sm_upd LJ _,aS g.hd N.db,aS g.hst N.sb,ag,aS g.hq N.bq.symm,g.hl.keep (L:=L) (fun a u e m=>aS e (N.bl a m).symm) (fun _ hp=>hp),aS g.hw N.bw.symm,{vs,aS Y N.bo.symm,mV (mX g.hb (fun _ z=>by cases z)) W},{rs,aS r1 N.br.symm,r2},aS g.hu N.bu.symm,g.hh,g.hm,g.nd,g.fr,?_,g.wt,g.wa,g.wb};obtain⟨kb,kq,nb,nq,wb,wq,nw,sw,nu,su,wo,fw⟩:=g.ok;refine{(yu _ _ _).trans kb,kq,nb,nq,fun p hp=>?_,wq,nw,sw,nu,su,wo,fw}
 rcases AE hp with z|z
 ·exact wb p z
 ·rw[z];exact Z
theorem CV{xs:List Str}{x:Str}(h:xs.Nodup):(nA xs x).Nodup:=by
 unfold nA
 by_cases c:x∈xs
 ·rw[if_pos c];exact h
 ·rw[if_neg c];refine gX.mpr {h,by simp,fun a ha b hb=>?_};rw[aE.mp hb];exact fun z=>c (by rw[<- z];exact ha)
theorem AF{xs:List Str}{x y:Str}(h:y∈nA xs x):y∈xs\/y=x:=by
 unfold nA at h
 by_cases c:x∈xs
 ·rw[if_pos c]at h;exact .inl h
 ·rw[if_neg c]at h
  rcases bY.mp h with z|z
  ·exact .inl z
  ·exact .inr (aE.mp z)
theorem Ht{xs:List Str}:∀{ys:List Str},xs.Nodup->(∀x∈xs,x∈ys)->xs.length<=ys.length:=by
 induction xs with
 |nil=>intro ys _ _;exact bU _
 |cons x xs Y=>
  intro ys nd s;obtain⟨n1,n2⟩:=cG.mp nd;have hx:x∈ys:=s x aC;have:=Y (ys:=ys.erase x) n2 fun z Z=>(List.mem_erase_of_ne (fun e=>n1 (by rw[<- e];exact Z))).mpr (s z (ah _ Z));rw[List.length_erase_of_mem hx]at this;have:=List.length_pos_of_mem hx;rw[aT];omega
theorem qK.few(k:qK bs qs w):w.wr.length<100:=jA (Ht k.nw k.sw) k.fw
theorem qK.few2(k:qK bs qs w):w.qn.length<100:=jA (Ht k.nu k.su) k.fw
theorem CW(xs:List Str):(wrK xs).length=xs.length:=ao _
theorem dW:1000<aB:=by decide
theorem Dg.wrote(g:Dg CD CS bs qs H0 G L h ds w){x:Str}(hx:x∈bs++qs):Dg CD CS bs qs H0 (upd G L.wd (.dK (wrK (nA w.wr x)))) L h ds {w with wr:=nA w.wr x}:=by
 have N:=Lay.ne g.nd;obtain⟨vs,Z,Y⟩:=g.ho;obtain⟨rs,r1,r2⟩:=g.hr;refine{g.sm_upd in_wd _,aS g.hd N.dw,aS g.hst N.sw,aS g.hb N.bw,aS g.hq N.qw,g.hl.keep (L:=L) (fun a u e m=>aS e (N.wl a m).symm) (fun _ hp=>hp),ag,{vs,aS Z N.wo.symm,mV (mX g.hw (fun _ z=>by cases z)) Y},{rs,aS r1 N.wr.symm,r2},aS g.hu N.wu.symm,g.hh,g.hm,g.nd,g.fr,?_,g.wt,g.wa,g.wb};obtain⟨kb,kq,nb,nq,wb,wq,nw,sw,nu,su,wo,fw⟩:=g.ok;refine{kb,kq,nb,nq,wb,wq,CV nw,fun y hy=>?_,nu,su,wo,fw}
 rcases AF hy with z|z
 ·exact sw y z
 ·rw[z];exact hx
theorem gE.at_{x:Str}:∀{qa:List (Str×aa)} {qu:List (Str×List Int)},gE G qa qu->x∈qu.map (·.1)->∃l,qa.lookup x=some l/\G l=some (.lst ((jN qu x).map V.int))/\l∈qa.map (·.2)
 |_,_,.nil,m=>by cases m
 |(k,l)::qa,(U,xs)::qu,.cons a b,m=>by
  obtain⟨e,ha⟩:=a;dsimp only at e ha;subst e
  by_cases c:x=k
  ·subst c;refine{l,bQ,?_,aC};unfold jN;rw[bQ];exact ha
  ·have Z:x∈qu.map (·.1):=by
    rcases ar.mp m with z|z
    ·exact absurd z c
    ·exact z
   obtain⟨Y,h1,h2,W⟩:=gE.at_ b Z;refine{Y,?_,?_,ah _ W}
   ·rw[cE,beq_eq_false_iff_ne.mpr c];exact h1
   ·unfold jN at h2 |-;rw[cE,beq_eq_false_iff_ne.mpr c];exact h2
theorem qL{Z:Type}{x:Str}{a:Z}:∀{ps:List (Str×Z)},ps.lookup x=some a->(x,a)∈ps
 | [],h=>by cases h
 |(k,b)::ps,h=>by
  by_cases c:x=k
  ·subst c;rw[bQ]at h
   cases h;exact aC
  ·rw[cE,beq_eq_false_iff_ne.mpr c]at h;exact ah _ (qL h)
theorem EK{Z:Type}{x:Str}{n:Z}{ps:List (Str×Z)}(h:x∉ps.map (·.1)):pA ps x n=ps:=by
 unfold pA;have:∀p∈ps,(if p.1=x then (p.1,n) else p)=p:=fun p hp=>if_neg fun e=>h (cB.mpr ⟨p,hp,e⟩);rw[gC this];exact List.map_id _
theorem gE.set{x:Str}{l:aa}{ns:List Int}:∀{qa:List (Str×aa)} {qu:List (Str×List Int)},gE G qa qu->(qa.map (·.2)).Nodup->(qu.map (·.1)).Nodup->qa.lookup x=some l->gE (upd G l (.lst (ns.map V.int))) qa (pA qu x ns)
 |_,_,.nil,_,_,e=>by cases e
 |(k,Z)::qa,(O,xs)::qu,.cons a b,nd,nk,e=>by
  obtain⟨Y,ha⟩:=a;dsimp only at Y ha;subst Y;obtain⟨n1,n2⟩:=cG.mp nd;obtain⟨U,W⟩:=cG.mp nk
  by_cases c:x=k
  ·subst c;rw[bQ]at e
   cases e;show gE _ _ ((if x=x then (x,ns) else (x,xs))::pA qu x ns);rw[if_pos rfl,EK U];refine .cons ⟨rfl,ag⟩ ?_;refine gE.keep (L:={0,0,0,0,0,0,0,0,0,0,.non,.non,qa}) (G:=G) (fun a u e m=>aS e fun z=>n1 (by rw[<- z];exact m)) (fun _ hp=>hp) b
  ·rw[cE,beq_eq_false_iff_ne.mpr c]at e;show gE _ _ ((if k=x then (k,ns) else (k,xs))::pA qu x ns);rw[if_neg fun z=>c z.symm];refine .cons {rfl,aS ha fun z=>n1 ?_} (gE.set b n2 W e);show Z∈qa.map (·.2);rw[show Z=l from z];exact cB.mpr {_,qL e,rfl}
theorem Dg.queue(g:Dg CD CS bs qs H0 G L h ds w){x:Str}{l:aa}{ns:List Int}(hl:L.qa.lookup x=some l)(len:ns.length<=30)(O:∀n∈ns,Wo n):Dg CD CS bs qs H0 (upd G l (.lst (ns.map V.int))) L h ds {w with qu:=pA w.qu x ns}:=by
 have N:=Lay.ne g.nd;have Z:l∈L.qa.map (·.2):=cB.mpr {_,qL hl,rfl};obtain⟨vs,W,U⟩:=g.ho;obtain⟨rs,r1,r2⟩:=g.hr;obtain⟨kb,kq,nb,nq,wb,wq,nw,sw,nu,su,wo,fw⟩:=g.ok;have Y:∃xs,G l=some (.lst xs):=by
  have key:∀{qa:List (Str×aa)} {qu:List (Str×List Int)},gE G qa qu->l∈qa.map (·.2)->∃xs,G l=some (.lst xs):=fun {qa qu} q=>by
   induction q with
   |nil=>intro m;cases m
   |cons a _ M=>
    intro m
    rcases ar.mp m with z|z
    ·rw[z];exact{_,a.2}
    ·exact M z
  exact key g.hl Z
 obtain⟨xs,Y⟩:=Y;refine{g.sm_upd (in_l Z) _,aS g.hd (N.dl l Z),aS g.hst (N.sl l Z),aS g.hb (N.bl l Z),aS g.hq (N.ql l Z),g.hl.set N.ll (by rw[kq];exact nq) hl,aS g.hw (N.wl l Z),{vs,aS W (N.ol l Z),mV (mX Y (fun _ z=>by cases z)) U},{rs,aS r1 (N.rl l Z),r2},aS g.hu (N.ul l Z),g.hh,g.hm,g.nd,g.fr,?_,g.wt,g.wa,g.wb};refine{kb,(yu _ _ _).trans kq,nb,nq,wb,fun p hp=>?_,nw,sw,nu,su,wo,fw}
 rcases AE hp with z|z
 ·exact wq p z
 ·rw[z];exact⟨len,O⟩
theorem Dg.counts(g:Dg CD CS bs qs H0 G L h ds w)(dr:Nat)(se:Int):Dg CD CS bs qs H0 (upd G L.st (.ins CS L.dxs (pz (.ref L.bd) (.ref L.qd) (.int dr) (.int se)))) L h ds {w with dr:=dr,se:=se}:=by
 have N:=Lay.ne g.nd;obtain⟨vs,Y,Z⟩:=g.ho;obtain⟨rs,r1,r2⟩:=g.hr;obtain⟨kb,kq,nb,nq,wb,wq,nw,sw,nu,su,wo,fw⟩:=g.ok;exact{g.sm_upd LI _,aS g.hd N.ds,ag,aS g.hb N.sb.symm,aS g.hq N.sq.symm,g.hl.keep (L:=L) (fun a u e m=>aS e (N.sl a m).symm) (fun _ hp=>hp),aS g.hw N.sw.symm,{vs,aS Y N.so.symm,mV (mX g.hst (fun _ z=>by cases z)) Z},{rs,aS r1 N.sr.symm,r2},aS g.hu N.su.symm,g.hh,g.hm,g.nd,g.fr,⟨kb,kq,nb,nq,wb,wq,nw,sw,nu,su,wo,fw⟩,g.wt,g.wa,g.wb}
theorem Dg.sent(g:Dg CD CS bs qs H0 G L h ds w){vs:List V}{v:V}{e:Ev}(hv:G L.od=some (.lst vs))(Y:hZ G v e)(O:Wo e.a/\Wo e.b):Dg CD CS bs qs H0 (upd G L.od (.lst (vs++[v]))) L h ds {w with out:=w.out++[e]}:=by
 have N:=Lay.ne g.nd;obtain⟨W,Z,U⟩:=g.ho;obtain⟨rs,r1,r2⟩:=g.hr;rw[hv]at Z
 cases Z;obtain⟨kb,kq,nb,nq,wb,wq,nw,sw,nu,su,wo,fw⟩:=g.ok;refine{g.sm_upd LK _,aS g.hd N.do_,aS g.hst N.so,aS g.hb N.bo,aS g.hq N.qo,g.hl.keep (L:=L) (fun a u e m=>aS e (N.ol a m).symm) (fun _ hp=>hp),aS g.hw N.wo,{_,ag,?_},{rs,aS r1 N.or.symm,r2},aS g.hu N.ou.symm,g.hh,g.hm,g.nd,g.fr,{kb,kq,nb,nq,wb,wq,nw,sw,nu,su,fun x hx=>(bY.mp hx).elim (wo x) fun z=>by rw[aE.mp z];exact O,fw},g.wt,g.wa,g.wb};exact mV (mX hv (fun _ z=>by cases z)) (eP U Y)
theorem Dg.ended(g:Dg CD CS bs qs H0 G L h ds w):Dg CD CS bs qs H0 (upd G L.d (.ins CD L.dx (dF L.m L.hv L.st L.wd L.od true L.rd L.ud))) L h ds {w with en:=true}:=by
 have N:=Lay.ne g.nd;obtain⟨vs,Y,Z⟩:=g.ho;obtain⟨rs,r1,r2⟩:=g.hr;obtain⟨kb,kq,nb,nq,wb,wq,nw,sw,nu,su,wo,fw⟩:=g.ok;exact{g.sm_upd in_d _,ag,aS g.hst N.ds.symm,aS g.hb N.db.symm,aS g.hq N.dq.symm,g.hl.keep (L:=L) (fun a u e m=>aS e (N.dl a m).symm) (fun _ hp=>hp),aS g.hw N.dw.symm,{vs,aS Y N.do_.symm,mV (mX g.hd (fun _ z=>by cases z)) Z},{rs,aS r1 N.dr.symm,r2},aS g.hu N.du.symm,g.hh,g.hm,g.nd,g.fr,⟨kb,kq,nb,nq,wb,wq,nw,sw,nu,su,wo,fw⟩,g.wt,g.wa,g.wb}
theorem Dg.reckoned(g:Dg CD CS bs qs H0 G L h ds w){rs:List V}{v:V}{F:Fm}(hr:G L.rd=some (.lst rs))(Z:FmI bs qs H0 v F):Dg CD CS bs qs H0 (upd G L.rd (.lst (rs++[v]))) L h ds {w with rk:=w.rk++[F]}:=by
 have N:=Lay.ne g.nd;obtain⟨vs,U,W⟩:=g.ho;obtain⟨Y,r1,r2⟩:=g.hr;rw[hr]at r1
 cases r1;obtain⟨kb,kq,nb,nq,wb,wq,nw,sw,nu,su,wo,fw⟩:=g.ok;exact{g.sm_upd in_rd _,aS g.hd N.dr,aS g.hst N.sr,aS g.hb N.br,aS g.hq N.qr,g.hl.keep (L:=L) (fun a u e m=>aS e (N.rl a m).symm) (fun _ hp=>hp),aS g.hw N.wr,{vs,aS U N.or,mV (mX hr (fun _ z=>by cases z)) W},{_,ag,eP r2 Z},aS g.hu N.ru.symm,g.hh,g.hm,g.nd,g.fr,⟨kb,kq,nb,nq,wb,wq,nw,sw,nu,su,wo,fw⟩,g.wt,g.wa,g.wb}
theorem Dg.queued(g:Dg CD CS bs qs H0 G L h ds w){x:Str}(hx:x∈bs++qs):Dg CD CS bs qs H0 (upd G L.ud (.dK (wrK (nA w.qn x)))) L h ds {w with qn:=nA w.qn x}:=by
 have N:=Lay.ne g.nd;obtain⟨vs,Z,Y⟩:=g.ho;obtain⟨rs,r1,r2⟩:=g.hr;obtain⟨kb,kq,nb,nq,wb,wq,nw,sw,nu,su,wo,fw⟩:=g.ok;refine{g.sm_upd in_ud _,aS g.hd N.du,aS g.hst N.su,aS g.hb N.bu,aS g.hq N.qu,g.hl.keep (L:=L) (fun a u e m=>aS e (N.ul a m).symm) (fun _ hp=>hp),aS g.hw N.wu,{vs,aS Z N.ou,mV (mX g.hu (fun _ z=>by cases z)) Y},{rs,aS r1 N.ru,r2},ag,g.hh,g.hm,g.nd,g.fr,{kb,kq,nb,nq,wb,wq,nw,sw,CV nu,fun y hy=>?_,wo,fw},g.wt,g.wa,g.wb}
 rcases AF hy with z|z
 ·exact su y z
 ·rw[z];exact hx
theorem Hu{x:Str}{ps:List (Str×Int)}(m:x∈ps.map (·.1)):jL (boK ps) (Sum.inr x)=some (.int (wM ps x)):=by
 obtain⟨a,h1,_⟩:=oz m;have z:=sX V.int x ps;rw[h1]at z;unfold wM;rw[h1];exact z
theorem Hv{x:Str}{l:aa}{qa:List (Str×aa)}(m:qa.lookup x=some l):jL (quK qa) (Sum.inr x)=some (.ref l):=by
 have z:=sX V.ref x qa;rw[m]at z;exact z
theorem Kd{x:Str}(k:qK bs qs w)(m:x∈bs):Wo (wM w.bx x):=by
 obtain⟨a,h1,h2⟩:=oz (ps:=w.bx) (x:=x) (by rw[k.kb];exact m);unfold wM;rw[h1];exact k.wb _ h2
theorem zl{x:Str}(k:qK bs qs w)(m:x∈qs):(jN w.qu x).length<=30/\∀n∈jN w.qu x,Wo n:=by
 obtain⟨a,h1,h2⟩:=oz (ps:=w.qu) (x:=x) (by rw[k.kq];exact m);unfold jN;rw[h1];exact k.wq _ h2
theorem Dg.asks(g:Dg CD CS bs qs H0 G L h ds w):(AD h w).Ok bs qs:=
 ⟨fun x m=>Kd g.ok m,fun x m=>by
  have:=(zl g.ok m).1;show (jN w.qu x).length<=1000;omega,g.wa,g.wb,g.wt⟩
theorem Dg.holds{K:ae}(g:Dg CD CS bs qs H0 G L h ds w){Z:aa}(Y:G Z=some (.lst [.int h.a,.int h.b])):Holds K CS bs qs G L.st Z (AD h w):=
 ⟨⟨L.dxs,L.bd,L.qd,_,_,_,g.hst,J6 _ _ _ _,Kc _ _ _ _,g.hb,g.hq,fun x m=>Hu (by rw[g.ok.kb];exact m),fun x m=>by
  obtain⟨l,h1,h2,_⟩:=g.hl.at_ (x:=x) (by rw[g.ok.kq];exact m);exact{l,_,Hv h1,h2,ao _}⟩,Y⟩
end
end My
namespace L2
open PySem
theorem uL.own{X:Cx}{E:XK}(hb:uL X E):PassesOwn (bf X.prog X.w) X.A X.env X.xe:=by
 rw[hb.xe];exact PassesOwn.leaving
end L2
namespace My
open PySem L2
structure Mt(K:ae)(C:aa)(x qual:Str)(st:cT)(ps:List Str)(f:aa)(fd:bR):Prop where
 F:Fun K x qual st f fd
 b:Binds K fd ps []
 m:xw K C x f
structure Hw(K:ae)(mg:Str->Option af)(cf:Flt->aa):Prop where
 two:Fts K mg (cf .nought) (cf .great)
 mF:mg "Full"=some (.ref (cf .full))
 mD:mg "Dry"=some (.ref (cf .dry))
 mS:mg "Span"=some (.ref (cf .span))
 mL:mg "Late"=some (.ref (cf .late))
 xF:cP K (cf .full) oV "ValueError.__new__"=true
 xD:cP K (cf .dry) oV "ValueError.__new__"=true
 xS:cP K (cf .span) oV "ValueError.__new__"=true
 xL:cP K (cf .late) oV "ValueError.__new__"=true
def uk(cf:Flt->aa)(dg:Wk->Hp->Prop)(H0:Hp)(n:Nat)(r:Except Flt Wk)(Q:VK)(E:XK):Prop:=match r with
 |.ok Z=>∀G',dg Z G'->Z.len<=n->Q .non G'
 |.error e=>∀G',aV H0 G'->E (.ref (cf e)) none G'
theorem lW{cf:Flt->aa}{dg:Wk->Hp->Prop}{H0 G':Hp}{n:Nat}{h:Ev}{w:Wk}{f:Fm}{k:Wk->Int->Except Flt Wk}{Z Q:VK}{E:XK}(p:uk cf dg H0 n (rck h w f k) Z E)(s:aV H0 G')
  (hq:∀r,ev (AD h w) f=.ok r->uk cf dg H0 n (k {w with rk:=w.rk++[f]} r) Z E->Q (.int r) G'):yt (cf .nought) (cf .great) (ev (AD h w) f) Q E G':=by
 unfold rck at p
 cases e:ev (AD h w) f with
 |ok r=>
  rw[e]at p;exact hq r e p
 |nought=>
  rw[e]at p;exact p G' s
 |great=>
  rw[e]at p;exact p G' s
theorem BR{w:Wk}{F:Fm}:w.out.length+(w.rk++[F]).length<=w.len+4:=by
 rw[aA];show _+(_+1)<=w.out.length+w.rk.length+4;omega
theorem Ke{w:Wk}{F F1 F2:Fm}{e:Ev}:(w.out++[e]).length+(w.rk++[F]++[F1]++[F2]).length<=w.len+4:=by
 rw[aA,aA,aA,aA];show _+1+(_+1+1+1)<=w.out.length+w.rk.length+4;omega
theorem Kf{x:Str}{n:Int}{ps:List (Str×Int)}(m:x∈ps.map (·.1)):ja (boK ps) (Sum.inr x) (.int n)=boK (pA ps x n):=by
 obtain⟨a,h1,_⟩:=oz m;exact JZ V.int x n (by rw[h1];rfl)
theorem Kg(ps:List (Str×Int)):(boK ps).length=ps.length:=ao _
section
variable{CD CS:aa}{bs qs:List Str}{H0 G G':Hp}{L:Lay}{h:Ev}{ds:List Int}{w:Wk}
theorem Dg.few(g:Dg CD CS bs qs H0 G L h ds w):(boK w.bx).length<aB/\(wrK w.wr).length<aB:=by
 have:=g.ok.few;have:=g.ok.fw;have:=dW;rw[Kg,CW];have e:=congrArg jy g.ok.kb;rw[ao]at e;rw[aA]at *;omega
theorem Dg.putB(g:Dg CD CS bs qs H0 G L h ds w){x:Str}{n:Int}(m:x∈bs):sQ G L.bd (.str x) (.int n) (upd G L.bd (.dK (boK (pA w.bx x n)))):=by
 have z:=sQ.k (k:=Sum.inr x) (v:=.int n) g.hb g.few.1;rw[Kf (by rw[g.ok.kb];exact m)]at z;exact z
theorem Dg.putW(g:Dg CD CS bs qs H0 G L h ds w)(x:Str):sQ G L.wd (.str x) (.bl true) (upd G L.wd (.dK (wrK (nA w.wr x)))):=by
 have z:=sQ.k (k:=Sum.inr x) (v:=.bl true) g.hw g.few.2;rw[CT]at z;exact z
theorem Dg.putU(g:Dg CD CS bs qs H0 G L h ds w)(x:Str):sQ G L.ud (.str x) (.bl true) (upd G L.ud (.dK (wrK (nA w.qn x)))):=by
 have z:=sQ.k (k:=Sum.inr x) (v:=.bl true) g.hu (by
  have:=g.ok.few2;have:=dW;rw[CW];omega)
 rw[CT]at z;exact z
theorem Dg.getL(g:Dg CD CS bs qs H0 G L h ds w){x:Str}(m:x∈qs):∃l,L.qa.lookup x=some l/\G l=some (.lst ((jN w.qu x).map V.int))/\pU G L.qd (.str x) (some (.ref l)):=by
 obtain⟨l,h1,h2,_⟩:=g.hl.at_ (x:=x) (by rw[g.ok.kq];exact m);refine{l,h1,h2,?_};have z:=pU.k (k:=Sum.inr x) g.hq;rw[Hv h1]at z;exact z
end
section
variable{P:aN}{w:bL}{K:ae}{mg:Str->Option af}{base:cz}{f fN fR fF fW fT fD fL fQ CD CS CM:aa}{fd fdN fdR fdF fdW fdT fdD fdL fdQ:bR}{cf:Flt->aa}{bs qs:List Str}
inductive Hx(CD CS:aa)(bs qs:List Str)(vs:List V)(H:Hp)(Q:VK)(_e:XK):Prop where
 |mk(H0:Hp)(L:Lay)(h:Ev)(ds:List Int)(w:Wk)(_:vs=[.ref L.d])(_:Dg CD CS bs qs H0 H L h ds w)(_:Q (.int h.t) H):Hx CD CS bs qs vs H Q _e
def Hy(CD CS:aa)(bs qs:List Str):Sp:=fun vs H Q Z=>Hx CD CS bs qs vs H Q Z
theorem scNw:bM ["self"] ["self"] (aM ju):={}
theorem Hz(M:Mt K CD "now" "Doing.now" ju ["self"] f fd)(T:DT K mg CD):bA P w K mg base CX0 1 f fd ["self"] (Hy CD CS bs qs):=by
 refine M.F.ok scNw (fun vs H Q E h=>?_) (fun Z A outer s H vs Q E hr h=>?_)
 ·obtain⟨H0,L,e,ds,w,rfl,_⟩:=h;rfl
 obtain⟨H0,L,e,ds,w,rfl,g,q⟩:=h;obtain⟨t,k,ev,h1,h2⟩:=g.hh;refine{_,ay (bN (bP cF (bP cF (cW (pv 0) rfl) aw (fun _ _=>rfl)) aw (fun _ _=>rfl))),?_};exact{_,rfl,L.d,CD,L.dx,_,_,rfl,g.hd,T.cl,T.nH,J0 _ _ _ _ _ _ _ _,t,_,_,_,ev,rfl,SqT.of (g.sm _ _ h1),rfl,k,_,_,_,rfl,rfl,SqT.of (g.sm _ _ h2),rfl,q}
inductive CZ(cf:Flt->aa)(CD CS:aa)(bs qs:List Str)(vs:List V)(H:Hp)(Q:VK)(E:XK):Prop where
 |mk(H0:Hp)(L:Lay)(h:Ev)(ds:List Int)(w:Wk)(v:V)(F:Fm)(_:vs=[.ref L.d,v])(_:Dg CD CS bs qs H0 H L h ds w)(_:FmI bs qs H0 v F)(_:w.len<400000)(_:∀G',Dg CD CS bs qs H0 G' L h ds {w with rk:=w.rk++[F]}->yt (cf .nought) (cf .great) (ev (AD h w) F) Q E G'):CZ cf CD CS bs qs vs H Q E
def um(cf:Flt->aa)(CD CS:aa)(bs qs:List Str):Sp:=fun vs H Q E=>CZ cf CD CS bs qs vs H Q E
theorem scRk:bM ["self","formula"] ["self","formula"] (aM fj):={}
theorem gm(M:Mt K CD "reckon" "Doing.reckon" fj ["self","formula"] f fd)(O:Mt K CD "now" "Doing.now" ju ["self"] fN fdN)(Y:Df K mg "worth_of" lQ ["formula","state","now","got"] fW fdW)(U:Df K mg "number_of_two" gL ["kind","first","second"] fT fdT)(DD:Df K mg "number_of_division" eB ["kind","first","second"] fD fdD)
  (DL:Df K mg "number_of_leaf" gD ["formula","state","now","got"] fL fdL) (T:DT K mg CD) (TF:Hw K mg cf) (TM:MdT K mg CM CS) (B:Bl mg):bA P w K mg base (CXo P w) 18 f fd ["self","formula"] (um cf CD CS bs qs):=by
 have GN:bA P w K mg base CX0 1 fN fdN ["self"] (Hy CD CS bs qs):=Hz O T;have D:bA P w K mg base (CXo P w) 17 fW fdW ["formula","state","now","got"] (Hn K CS (cf .nought) (cf .great) bs qs 15):=LH Y U DD DL TF.two TM B 15;refine M.F.okX scRk (fun vs H Q E h=>?_) (fun I A outer s H vs Q E hr h=>?_)
 ·obtain⟨H0,L,e,ds,w,v,F,rfl,_⟩:=h;rfl
 obtain⟨H0,L,e,ds,w,v,F,rfl,g,V,fw,q⟩:=h;obtain⟨t,k,J,h1,h2⟩:=g.hh;have r1:cQ 1 _:=hr.mono (by omega);obtain⟨rs,Z,r2⟩:=g.hr;have g0:=g.reckoned Z V;refine{_,ai (d9 (nX bV cY cZ iC (cW (pv 0) rfl) (au (pv 1) aj))) (ay (bN (aL D hr rfl Y.m Y.F.kp Y.b .nil (dP.passes fun _ _ _ z=>z) (au (pv 1) (au (cW (pv 0) rfl) (au (jh (pv 0) T.cl O.m GN r1 O.b .nil bC) (au (eA (au (bP cF (cW (pv 0) rfl) aw (fun _ _=>rfl)) (au (bP cF (cW (pv 0) rfl) aw (fun _ _=>rfl)) aj))) aj))))))),?_};have rl:rs.length<aB:=by
  have z:rs.length=w.rk.length:=aZ r2;have:400000<aB:=by decide
  have:w.out.length+w.rk.length<400000:=fw;omega
 refine{_,rfl,L.d,CD,L.dx,_,_,rfl,g.hd,T.cl,T.nR,dF_r _ _ _ _ _ _ _ _,.inl {rfl,_,SqL.of Z},_,rfl,L.rd,_,_,rfl,rfl,Z,rl,?_};refine{_,rfl,_,rfl,L.d,CD,L.dx,_,_,rfl,g0.hd,T.cl,T.nS,xR _ _ _ _ _ _ _ _,?_};refine{_,rfl,L.d,L.dx,_,rfl,g0.hd,pO _ _ _ _ _ _ _ _ (by decide +kernel),H0,L,e,ds,_,rfl,g0,?_};refine{_,rfl,L.d,CD,L.dx,_,_,rfl,g0.hd,T.cl,T.nH,J0 _ _ _ _ _ _ _ _,t,_,_,_,J,rfl,SqT.of (g0.sm _ _ h1),rfl,?_};refine{_,rfl,L.d,CD,L.dx,_,_,rfl,g0.hd,T.cl,T.nH,J0 _ _ _ _ _ _ _ _,t,_,_,_,J,rfl,SqT.of (g0.sm _ _ h1),rfl,?_};refine{lt2,fun l hl=>?_};have s2:=aF hl (.lst [.int e.a,.int e.b]);have W:=g0.same s2;exact{v,F,L.st,l,AD e w,rfl,(V.1.same W.sm),V.2,W.holds ag,W.asks,q _ W}
inductive HA(CD CS:aa)(bs qs:List Str)(vs:List V)(H:Hp)(Q:VK)(_e:XK):Prop where
 |mk(H0:Hp)(L:Lay)(h:Ev)(ds:List Int)(w:Wk)(x:Str)(_:vs=[.ref L.d,.str x])(_:Dg CD CS bs qs H0 H L h ds w)(_:x∈qs)(_:∀G' l,Dg CD CS bs qs H0 G' L h ds {w with qn:=nA w.qn x}->L.qa.lookup x=some l->G' l=some (.lst ((jN w.qu x).map V.int))->Q (.ref l) G'):HA CD CS bs qs vs H Q _e
def HB(CD CS:aa)(bs qs:List Str):Sp:=fun vs H Q Z=>HA CD CS bs qs vs H Q Z
theorem scQo:bM ["self","name"] ["self","name"] (aM eV):={}
theorem HC(M:Mt K CD "queue_of" "Doing.queue_of" eV ["self","name"] f fd)(T:DT K mg CD)(Z:MdT K mg CM CS):bA P w K mg base CX0 1 f fd ["self","name"] (HB CD CS bs qs):=by
 refine M.F.ok scQo (fun vs H Q E h=>?_) (fun W A outer s H vs Q E hr h=>?_)
 ·obtain⟨H0,L,e,ds,w,x,rfl,_⟩:=h;rfl
 obtain⟨H0,L,e,ds,w,x,rfl,g,hx,q⟩:=h;have hu:=lN hr;refine{_,ai (kW hu (cW (pv 0) rfl) (pv 1) lD rfl) (ay (bN (q8 hu (cW (cW (pv 0) rfl) rfl) (pv 1) (fun _ _=>rfl)))),?_};have g1:=g.queued (x:=x) (bj _ hx);obtain⟨l,hl,Y,dl⟩:=g1.getL hx;refine{_,rfl,L.d,CD,L.dx,_,_,rfl,g.hd,T.cl,T.nQ,dF_u _ _ _ _ _ _ _ _,_,rfl,L.ud,_,rfl,g.putU x,?_};exact{_,rfl,L.d,CD,L.dx,_,_,rfl,g1.hd,T.cl,T.nS,xR _ _ _ _ _ _ _ _,L.st,CS,L.dxs,_,_,rfl,g1.hst,Z.clS,Z.nQ,Kc _ _ _ _,_,rfl,L.qd,_,rfl,dl,q _ l g1 hl Y}
inductive C0(CD CS:aa)(bs qs:List Str)(vs:List V)(H:Hp)(Q:VK)(_e:XK):Prop where
 |mk(H0:Hp)(L:Lay)(h:Ev)(ds:List Int)(w:Wk)(x:Str)(n:Int)(_:vs=[.ref L.d,.str x,.int n])(_:Dg CD CS bs qs H0 H L h ds w)(_:x∈bs)(_:Wo n)(_:∀G',Dg CD CS bs qs H0 G' L h ds (Hq w x n)->Q .non G'):C0 CD CS bs qs vs H Q _e
def zm(CD CS:aa)(bs qs:List Str):Sp:=fun vs H Q Z=>C0 CD CS bs qs vs H Q Z
theorem scFl:bM ["self","box","worth"] ["self","box","worth"] (aM gN):={}
theorem zo(M:Mt K CD "fill" "Doing.fill" gN ["self","box","worth"] f fd)(T:DT K mg CD)(Z:MdT K mg CM CS):bA P w K mg base CX0 1 f fd ["self","box","worth"] (zm CD CS bs qs):=by
 refine M.F.ok scFl (fun vs H Q E h=>?_) (fun Y A outer s H vs Q E hr h=>?_)
 ·obtain⟨H0,L,e,ds,w,x,n,rfl,_⟩:=h;rfl
 obtain⟨H0,L,e,ds,w,x,n,rfl,g,hx,V,q⟩:=h;have hu:=lN hr;refine{_,ai (kW hu (cW (cW (pv 0) rfl) rfl) (pv 1) (pv 2) rfl) (ay (kW hu (cW (pv 0) rfl) (pv 1) lD rfl)),?_};have g1:=g.box (x:=x) V;have W:=g1.wrote (x:=x) (gU _ hx);refine{_,rfl,_,rfl,L.d,CD,L.dx,_,_,rfl,g.hd,T.cl,T.nS,xR _ _ _ _ _ _ _ _,L.st,CS,L.dxs,_,_,rfl,g.hst,Z.clS,Z.nB,J6 _ _ _ _,_,rfl,L.bd,_,rfl,g.putB hx,?_};exact{_,rfl,L.d,CD,L.dx,_,_,rfl,g1.hd,T.cl,T.nW,Hr _ _ _ _ _ _ _ _,_,rfl,L.wd,_,rfl,g1.putW x,q _ W}
inductive C5(cf:Flt->aa)(CD CS:aa)(bs qs:List Str)(vs:List V)(H:Hp)(Q:VK)(E:XK):Prop where
 |mk(H0:Hp)(L:Lay)(h:Ev)(ds:List Int)(w:Wk)(x:Str)(v:V)(F:Fm)(_:vs=[.ref L.d,.str x,v])(_:Dg CD CS bs qs H0 H L h ds w)(_:x∈qs)(_:FmI bs qs H0 v F)(_:w.len<400000)(_:uk cf (fun w' G'=>Dg CD CS bs qs H0 G' L h ds w') H0 (w.len+4) (doD h ds (.push x F) w) Q E):C5 cf CD CS bs qs vs H Q E
def BU(cf:Flt->aa)(CD CS:aa)(bs qs:List Str):Sp:=fun vs H Q E=>C5 cf CD CS bs qs vs H Q E
theorem N1:bM ["doing","name","formula","worth","queue"] ["doing","name","formula"] (aM og):={}
theorem sY(D:Df K mg "do_push" og ["doing","name","formula"] f fd)(O:Mt K CD "reckon" "Doing.reckon" fj ["self","formula"] fR fdR)(t:bA P w K mg base (CXo P w) 18 fR fdR ["self","formula"] (um cf CD CS bs qs))(Y:Mt K CD "queue_of" "Doing.queue_of" eV ["self","name"] fQ fdQ)(T:DT K mg CD)(M:Hw K mg cf)(TM:MdT K mg CM CS)(B:Bl mg) :
  bA P w K mg base (CXo P w) 19 f fd ["doing","name","formula"] (BU cf CD CS bs qs):=by
 have I:bA P w K mg base CX0 1 fQ fdQ ["self","name"] (HB CD CS bs qs):=HC Y T TM;refine D.F.okX N1 (fun vs H Q E h=>?_) (fun J A outer s H vs Q E hr h=>?_)
 ·obtain⟨H0,L,e,ds,w,x,v,F,rfl,_⟩:=h;rfl
 obtain⟨H0,L,e,ds,w,x,v,F,rfl,g,hx,U,fw,p⟩:=h;have hu:=lN hr;have r1:cQ 1 _:=hr.mono (by omega);refine⟨_,ai (bh (i:=3) N1.nd rfl (Or.inl rfl) (gf (pv 0) T.cl O.m t hr O.b .nil (dP.passes fun _ _ _ z=>z) (au (pv 2) aj)))
  (ai (bh (i:=4) N1.nd rfl (Or.inl rfl) (gf (pv 0) T.cl Y.m I r1 Y.b .nil bC (au (pv 1) aj)))
  (ai (cK (bO FB (cS ip (by rfl) B.len cA (au (pv 4) aj)) aw (bX _)) (ay (jB dP rfl rfl M.mF M.xF (au cb aj))) bS)
  (ai (d9 (nX bV cY cZ iC (pv 4) (au (pv 3) aj)))
  (ay (kW hu (cW (pv 0) rfl) (pv 1) lD rfl))))),?_⟩
 simp only[doD]at p;refine{_,rfl,L.d,L.dx,_,rfl,g.hd,pO _ _ _ _ _ _ _ _ (by decide +kernel),_,rfl,H0,L,e,ds,w,v,F,rfl,g,U,fw,fun G0 g0=>?_};refine lW p g0.sm fun n en p=>?_;dsimp only at p;refine{_,rfl,L.d,L.dx,_,rfl,g0.hd,pO _ _ _ _ _ _ _ _ (by decide +kernel),_,rfl,H0,L,e,ds,_,x,rfl,g0,hx,fun G1 l g1 hl Z=>?_};refine{_,rfl,l,_,rfl,.inl (SqL.of Z),_,_,rfl,rfl,_,rfl,gi (fun c=>?_) (fun c=>?_)}
 ·have c:(30:Int)<=((((jN w.qu x).map V.int).length:Nat):Int):=ko c;rw[ao]at c;rw[if_pos (by omega)]at p;exact{(by show 1<=aB;decide),p _ g1.sm}
 ·have c:¬(30:Int)<=((((jN w.qu x).map V.int).length:Nat):Int):=kR c;rw[ao]at c;rw[if_neg (by omega)]at p;have wn:Wo n:=uS g1.asks (U.1.same g1.sm) en;have gq:=zl g1.ok hx;have W:=g1.queue (x:=x) (l:=l) (ns:=jN w.qu x++[n]) hl (by rw[aA];simp only[aT,cw];omega) (fun m hm=>by
   rcases bY.mp hm with z|z
   ·exact gq.2 m z
   ·rw[aE.mp z];exact wn)
  have g3:=W.wrote (x:=x) (bj _ hx);have lt:((jN w.qu x).map V.int).length<aB:=by
   rw[ao];have:=dW;omega
  refine{_,rfl,.inl {rfl,_,SqL.of Z},_,rfl,l,_,_,rfl,rfl,Z,lt,?_};have eq:(jN w.qu x).map V.int++[V.int n]=(jN w.qu x++[n]).map V.int:=by rw[bT];rfl
  rw[eq];exact{_,rfl,L.d,CD,L.dx,_,_,rfl,W.hd,T.cl,T.nW,Hr _ _ _ _ _ _ _ _,_,rfl,L.wd,_,rfl,W.putW x,p _ g3 (BR (w:=w) (F:=F))}
end
theorem HD(ds:List Int)(i:Nat)(h:i<ds.length):(ds.map V.int)[i]?=some (.int (ds.getD i 0)):=by
 rw[cC,aI h,dU,aI h];rfl
section
variable{P:aN}{w:bL}{K:ae}{mg:Str->Option af}{base:cz}{f fN fR fF CD CS CM:aa}{fd fdN fdR fdF:bR}{cf:Flt->aa}{bs qs:List Str}
inductive AG(cf:Flt->aa)(CD CS:aa)(bs qs:List Str)(vs:List V)(H:Hp)(Q:VK)(E:XK):Prop where
 |mk(H0:Hp)(L:Lay)(h:Ev)(ds:List Int)(w:Wk)(x:Str)(v:V)(F:Fm)(_:vs=[.ref L.d,.str x,v])(_:Dg CD CS bs qs H0 H L h ds w)(_:x∈bs)(_:FmI bs qs H0 v F)(_:w.len<400000)(_:uk cf (fun w' G'=>Dg CD CS bs qs H0 G' L h ds w') H0 (w.len+4) (doD h ds (.draw x F) w) Q E):AG cf CD CS bs qs vs H Q E
def zp(cf:Flt->aa)(CD CS:aa)(bs qs:List Str):Sp:=fun vs H Q E=>AG cf CD CS bs qs vs H Q E
theorem Kh:bM ["doing","box","formula","divisor","draws","draw"] ["doing","box","formula"] (aM oj):={}
theorem qM(D:Df K mg "do_draw" oj ["doing","box","formula"] f fd)(J:Mt K CD "reckon" "Doing.reckon" fj ["self","formula"] fR fdR)(GR:bA P w K mg base (CXo P w) 18 fR fdR ["self","formula"] (um cf CD CS bs qs))(U:Mt K CD "fill" "Doing.fill" gN ["self","box","worth"] fF fdF)(T:DT K mg CD)(W:Hw K mg cf)(Y:MdT K mg CM CS)(B:Bl mg) :
  bA P w K mg base (CXo P w) 19 f fd ["doing","box","formula"] (zp cf CD CS bs qs):=by
 have GF:bA P w K mg base CX0 1 fF fdF ["self","box","worth"] (zm CD CS bs qs):=zo U T Y;refine D.F.okX Kh (fun vs H Q E h=>?_) (fun bG A outer s H vs Q E hr h=>?_)
 ·obtain⟨H0,L,e,ds,w,x,v,F,rfl,_⟩:=h;rfl
 obtain⟨H0,L,e,ds,w,x,v,F,rfl,g,hx,O,fw,p⟩:=h;have r1:cQ 1 _:=hr.mono (by omega);refine⟨_,ai (bh (i:=3) Kh.nd rfl (Or.inl rfl) (gf (pv 0) T.cl J.m GR hr J.b .nil (dP.passes fun _ _ _ z=>z) (au (pv 2) aj)))
  (ai (cK (bO rH (pv 3) aw (bX _)) (ay (jB dP rfl rfl W.two.mN W.two.xN (au cb aj))) bS)
  (ai (bh (i:=4) Kh.nd rfl (Or.inl rfl) (bP cF (cW (pv 0) rfl) aw (fun _ _=>rfl)))
  (ai (cK (yK (vX (pv 4) (fun _=>rfl))) (ay (jB dP rfl rfl W.mD W.xD (au cb aj))) bS)
  (ai (bh (i:=5) Kh.nd rfl (Or.inl rfl) (bP cJ (pv 4) (cV rS (cW (cW (pv 0) rfl) rfl) (cS ip (by rfl) B.len cA (au (pv 4) aj))) (fun _ _=>rfl)))
  (ai (xY (cW (pv 0) rfl) aw FG)
  (ay (d9 (gf (pv 0) T.cl U.m GF r1 U.b .nil bC (au (pv 1) (au (cV rS (pv 5) (pv 3)) aj)))))))))),?_⟩
 simp only[doD]at p;refine{_,rfl,L.d,L.dx,_,rfl,g.hd,pO _ _ _ _ _ _ _ _ (by decide +kernel),_,rfl,H0,L,e,ds,w,v,F,rfl,g,O,fw,fun G1 g1=>?_};refine lW p g1.sm fun n en p=>?_;refine{_,rfl,_,_,rfl,rfl,_,rfl,gi (fun c=>?_) (fun c=>?_)}
 ·rw[if_pos (ko c)]at p;exact{(by show 1<=aB;decide),p _ g1.sm}
 have c:¬n<1:=kR c;rw[if_neg c]at p;obtain⟨t,x1,x2,x3,x4,dl,em,hm,hdl⟩:=g1.hm;refine{_,rfl,L.d,CD,L.dx,_,_,rfl,g1.hd,T.cl,T.nM,NT _ _ _ _ _ _ _ _,t,_,_,_,em,rfl,SqT.of (g1.sm _ _ hm),rfl,?_};have Z:=g1.sm _ _ hdl;refine{_,rfl,_,.inl {_,SqL.of Z,rfl},?_}
 cases hds:ds with
 |nil=>
  rw[hds]at p;refine iH ?_;exact{(by show 1<=aB;decide),p _ g1.sm}
 |cons d0 dr=>
  rw[<- hds];have ne:¬ds=[]:=by rw[hds];intro z;cases z
  have pos:0<ds.length:=by rw[hds];exact mE _
  rw[if_neg ne]at p;have nb:(!(!(ds.map V.int).isEmpty))=false:=by rw[hds];rfl
  rw[nb];refine gb ?_;have lt:w.dr%ds.length<ds.length:=Nat.mod_lt _ pos;have ix:atI (ds.map V.int) ((w.dr:Int)%(((ds.map V.int).length:Nat):Int))=some (.int (ds.getD (w.dr%ds.length) 0)):=by
   rw[ao,<- Int.natCast_emod];exact ij (HD ds _ lt)
  refine{_,rfl,_,rfl,L.d,CD,L.dx,_,_,rfl,g1.hd,T.cl,T.nS,xR _ _ _ _ _ _ _ _,L.st,CS,L.dxs,_,_,rfl,g1.hst,Y.clS,Y.nD,NY _ _ _ _,_,rfl,dl,_,rfl,.inl (SqL.of Z),_,_,rfl,rfl,(by rw[ao];omega),dl,_,_,_,rfl,rfl,SqL.of Z,ix,?_};refine{_,rfl,L.d,CD,L.dx,_,_,rfl,g1.hd,T.cl,T.nS,xR _ _ _ _ _ _ _ _,L.st,CS,L.dxs,_,_,rfl,g1.hst,Y.clS,Y.nD,NY _ _ _ _,_,_,rfl,rfl,L.dxs,_,g1.hst,Hs _ _ _ _,?_};rw[NW];have M:=g1.counts (w.dr+1) w.se;have wn:Wo n:=uS g1.asks (O.1.same g1.sm) en;have I:Wo (ds.getD (w.dr%ds.length) 0%n):=by
   have a1:=lX (ds.getD (w.dr%ds.length) 0) (show n≠0 by omega);have a2:=jF (ds.getD (w.dr%ds.length) 0) (show 0<n by omega);unfold Wo at wn |-;omega
  exact{_,rfl,L.d,L.dx,_,rfl,M.hd,pO _ _ _ _ _ _ _ _ (by decide +kernel),_,rfl,_,rfl,_,rfl,_,_,rfl,rfl,(by omega),H0,L,e,ds,_,x,_,rfl,M,hx,I,fun G' g3=>p G' g3 (BR (w:=w) (F:=F))}
inductive C6(cf:Flt->aa)(CD CS:aa)(bs qs:List Str)(vs:List V)(H:Hp)(Q:VK)(E:XK):Prop where
 |mk(H0:Hp)(L:Lay)(h:Ev)(ds:List Int)(w:Wk)(t:aa)(u u1 u2:V)(to:Int)(sg:Str)(rk:Int)(F F1 F2:Fm)(_:vs=[.ref L.d,.ref t])(_:Dg CD CS bs qs H0 H L h ds w)(_:H0 t=some (.tup [.str "send",.int to,.str sg,u,.int rk,u1,u2]))(_:FmI bs qs H0 u F)(_:FmI bs qs H0 u1 F1)(_:FmI bs qs H0 u2 F2)(_:w.len+4<400000)(_:uk cf (fun w' G'=>Dg CD CS bs qs H0 G' L h ds w') H0 (w.len+4) (doD h ds (.send to sg F rk F1 F2) w) Q E):C6 cf CD CS bs qs vs H Q E
def BV(cf:Flt->aa)(CD CS:aa)(bs qs:List Str):Sp:=fun vs H Q E=>C6 cf CD CS bs qs vs H Q E
theorem EL:bM ["doing","deed","span","first","second","when","key"] ["doing","deed"] (aM om):={}
theorem s9(D:Df K mg "do_send" om ["doing","deed"] f fd)(V:Mt K CD "reckon" "Doing.reckon" fj ["self","formula"] fR fdR)(GR:bA P w K mg base (CXo P w) 18 fR fdR ["self","formula"] (um cf CD CS bs qs))(MN:Mt K CD "now" "Doing.now" ju ["self"] fN fdN)(T:DT K mg CD)(TF:Hw K mg cf)(TM:MdT K mg CM CS)(B:Bl mg) :
  bA P w K mg base (CXo P w) 19 f fd ["doing","deed"] (BV cf CD CS bs qs):=by
 have GN:bA P w K mg base CX0 1 fN fdN ["self"] (Hy CD CS bs qs):=Hz MN T;refine D.F.okX EL (fun vs H Q E h=>?_) (fun da A outer s H vs Q E hr h=>?_)
 ·obtain⟨H0,L,e,ds,w,t,u,u1,u2,to,sg,rk,F,F1,F2,rfl,_⟩:=h;rfl
 obtain⟨H0,L,e,ds,w,t,u,u1,u2,to,sg,rk,F,F1,F2,rfl,g,ht,hF,M,dt,lo,p⟩:=h;have r1:cQ 1 _:=hr.mono (by omega);refine⟨_,ai (bh (i:=2) EL.nd rfl (Or.inl rfl) (gf (pv 0) T.cl V.m GR hr V.b .nil (dP.passes fun _ _ _ z=>z) (au (bP cF (pv 1) aw (fun _ _=>rfl)) aj)))
  (ai (cK (Le (bO rH (pv 2) aw (bX _)) (Fq (bO vV (pv 2) (cV tU aw aw) (bX _)))).pt (ay (jB dP rfl rfl TF.mS TF.xS (au cb aj))) bS)
  (ai (bh (i:=3) EL.nd rfl (Or.inl rfl) (gf (pv 0) T.cl V.m GR hr V.b .nil (dP.passes fun _ _ _ z=>z) (au (bP cF (pv 1) aw (fun _ _=>rfl)) aj)))
  (ai (bh (i:=4) EL.nd rfl (Or.inl rfl) (gf (pv 0) T.cl V.m GR hr V.b .nil (dP.passes fun _ _ _ z=>z) (au (bP cF (pv 1) aw (fun _ _=>rfl)) aj)))
  (ai (bh (i:=5) EL.nd rfl (Or.inl rfl) (cV gP (jh (pv 0) T.cl MN.m GN r1 MN.b .nil bC) (pv 2)))
  (ai (cK (bO vV (pv 5) (cV tU aw aw) (bX _)) (ay (jB dP rfl rfl TF.mL TF.xL (au cb aj))) bS)
  (ai (bh (i:=6) EL.nd rfl (Or.inl rfl) (eD (au (pv 5) (au (bP cF (pv 1) aw (fun _ _=>rfl)) (au (bP cF (cW (pv 0) rfl) aw (fun _ _=>rfl)) (au (cW (cW (pv 0) rfl) rfl) aj))))))
  (ai (xY (cW (pv 0) rfl) aw FG)
  (ay (d9 (nX bV cY cZ iC (cW (pv 0) rfl) (au (eD (au (pv 6) (au (bP cF (pv 1) aw (fun _ _=>rfl)) (au (bP cF (pv 1) aw (fun _ _=>rfl)) (au (pv 3) (au (pv 4) aj)))))) aj))))))))))),?_⟩
 simp only[doD]at p;have f0:w.len<400000:=by omega
 have f1:Wk.len {w with rk:=w.rk++[F]}<400000:=by
  show w.out.length+(w.rk++[F]).length<400000;rw[aA];have:w.out.length+w.rk.length+4<400000:=lo;show _+(_+1)<_;omega
 have f2:Wk.len {w with rk:=w.rk++[F]++[F1]}<400000:=by
  show w.out.length+(w.rk++[F]++[F1]).length<400000;rw[aA,aA];have:w.out.length+w.rk.length+4<400000:=lo;show _+(_+1+1)<_;omega
 have l1:1<=aB:=by decide
 have c6:Ei 10 6:={by decide,by decide,by decide};have dn:Ei 10 12:={by decide,by decide,by decide};have U:∀{G:Hp},aV H0 G->SqT K G t [.str "send",.int to,.str sg,u,.int rk,u1,u2]:=fun {G} z=>SqT.of (z _ _ ht);refine{_,rfl,L.d,L.dx,_,rfl,g.hd,pO _ _ _ _ _ _ _ _ (by decide +kernel),_,rfl,t,_,_,_,rfl,rfl,U g.sm,rfl,H0,L,e,ds,w,u,F,rfl,g,hF,f0,fun G1 g1=>?_};refine lW p g1.sm fun n en p=>?_;refine{_,rfl,_,_,rfl,rfl,_,rfl,gi (fun c=>?_) (fun c=>?_)}
 ·rw[if_pos (.inl (ko c))]at p;exact iH {l1,p _ g1.sm}
 have c:¬n<1:=kR c;refine{_,rfl,_,_,rfl,rfl,c6,_,_,rfl,rfl,_,rfl,gi (fun J=>?_) (fun J=>?_)}
 ·rw[if_pos (.inr (ko J))]at p;exact{l1,p _ g1.sm}
 have J:¬10^6<n:=kR J;rw[if_neg (fun z=>z.elim c J)]at p;refine{_,rfl,L.d,L.dx,_,rfl,g1.hd,pO _ _ _ _ _ _ _ _ (by decide +kernel),_,rfl,t,_,_,_,rfl,rfl,U g1.sm,rfl,H0,L,e,ds,_,u1,F1,rfl,g1,M,f1,fun G2 Y=>?_};refine lW p Y.sm fun n1 di p=>?_;refine{_,rfl,L.d,L.dx,_,rfl,Y.hd,pO _ _ _ _ _ _ _ _ (by decide +kernel),_,rfl,t,_,_,_,rfl,rfl,U Y.sm,rfl,H0,L,e,ds,_,u2,F2,rfl,Y,dt,f2,fun G3 Z=>?_};refine lW p Z.sm fun n2 de p=>?_;refine{_,rfl,L.d,L.dx,_,rfl,Z.hd,pO _ _ _ _ _ _ _ _ (by decide +kernel),H0,L,e,ds,_,rfl,Z,_,rfl,_,_,rfl,rfl,?_};refine{_,rfl,_,_,rfl,rfl,dn,_,_,rfl,rfl,_,rfl,gi (fun c3=>?_) (fun c3=>?_)}
 ·rw[if_pos (show 10^12<e.t+n from ko c3)]at p;exact{l1,p _ Z.sm}
 rw[if_neg (show ¬10^12<e.t+n from kR c3)]at p;obtain⟨th,kh,eh,h1,h2⟩:=Z.hh;refine{_,rfl,_,rfl,t,_,_,_,rfl,rfl,U Z.sm,rfl,_,rfl,L.d,CD,L.dx,_,_,rfl,Z.hd,T.cl,T.nH,J0 _ _ _ _ _ _ _ _,th,_,_,_,eh,rfl,SqT.of (Z.sm _ _ h1),rfl,_,rfl,L.d,CD,L.dx,_,_,rfl,Z.hd,T.cl,T.nS,xR _ _ _ _ _ _ _ _,L.st,CS,L.dxs,_,_,rfl,Z.hst,TM.clS,TM.nS,NZ _ _ _ _,(by show 4<=aB;decide),fun W hk=>?_};have s4:=aF hk (.tup [.int (e.t+n),.int rk,.int e.to,.int w.se]);have I:=Z.same s4;refine{_,rfl,L.d,CD,L.dx,_,_,rfl,I.hd,T.cl,T.nS,xR _ _ _ _ _ _ _ _,L.st,CS,L.dxs,_,_,rfl,I.hst,TM.clS,TM.nS,NZ _ _ _ _,_,_,rfl,rfl,L.dxs,_,I.hst,Hs _ _ _ _,?_};rw[NX];have O:=I.counts w.dr (w.se+1);have dc:∀{G:Hp} {o o':HO},G W=some (.tup [.int (e.t+n),.int rk,.int e.to,.int w.se])->G L.st=some o'->(∀xs,o'≠.tup xs)->upd G L.st o W=some (.tup [.int (e.t+n),.int rk,.int e.to,.int w.se]):=fun h1 h2 h3=>aS h1 (pG h1 h2 (fun z=>h3 _ z.symm));have k5:=dc (o:=.ins CS L.dxs (pz (.ref L.bd) (.ref L.qd) (.int w.dr) (.int (w.se+1)))) (ag:upd G3 W _ W=_) I.hst (fun xs z=>by cases z);obtain⟨vs,o1,o2⟩:=O.ho;refine{_,rfl,L.d,CD,L.dx,_,_,rfl,O.hd,T.cl,T.nO,dF_o _ _ _ _ _ _ _ _,.inl {rfl,_,SqL.of o1},?_};refine{_,rfl,_,rfl,t,_,_,_,rfl,rfl,U O.sm,rfl,_,rfl,t,_,_,_,rfl,rfl,U O.sm,rfl,_,rfl,_,rfl,lt5,fun ev dj=>?_};have s6:=aF dj (.tup [.ref W,.int to,.str sg,.int n1,.int n2]);have g6:=O.same s6;have ol:vs.length<aB:=by
  have:=aZ o2;have z:vs.length=w.out.length:=this;have:400000<aB:=by decide
  have:w.out.length+w.rk.length+4<400000:=lo;omega
 refine{L.od,vs,_,rfl,rfl,s6 _ _ o1,ol,?_};have g7:=g6.sent (v:=.ref ev) (e:={e.t+n,rk,e.to,w.se,to,sg,n1,n2}) (s6 _ _ o1) {ev,W,rfl,ag,s6 _ _ k5} {uS g1.asks (M.1.same g1.sm) di,uS Y.asks (dt.1.same Y.sm) de};exact p _ g7 (Ke (w:=w) (F:=F) (F1:=F1) (F2:=F2))
end
mutual
def Dd.size:Dd->Nat
 |.pull _ _ o=>o.size+1
 |.ife _ t e=>t.size+e.size+1
 |_=>1
def Ds.size:Ds->Nat
 |.nil=>0
 |.cons d r=>d.size+r.size
end
theorem uk.le{cf:Flt->aa}{dg:Wk->Hp->Prop}{H0:Hp}{m n:Nat}{r:Except Flt Wk}{Q:VK}{E:XK}(p:uk cf dg H0 n r Q E)(h:m<=n):uk cf dg H0 m r Q E:=by
 cases r with
 |ok w=>exact fun G g l=>p G g (dA l h)
 |error e=>exact p
section
variable{P:aN}{w:bL}{K:ae}{mg:Str->Option af}{base:cz}{f fR fF fP fD fU fW fS f1 fQ CD CS CM:aa}{fd fdR fdF fdP fdD fdU fdW fdS fd1 fdQ:bR}{cf:Flt->aa}{bs qs:List Str}
inductive HE(cf:Flt->aa)(CD CS:aa)(bs qs:List Str)(n:Nat)(vs:List V)(H:Hp)(Q:VK)(E:XK):Prop where
 |mk(H0:Hp)(L:Lay)(h:Ev)(ds:List Int)(w:Wk)(v:V)(D:Ds)(_:vs=[.ref L.d,v])(_:Dg CD CS bs qs H0 H L h ds w)(_:mU H0 (fv bs qs H0 D) v)(_:D.deep<n)(_:w.len+4*D.size<400000)(_:uk cf (fun w' G'=>Dg CD CS bs qs H0 G' L h ds w') H0 (w.len+4*D.size) (doS h ds D w) Q E):HE cf CD CS bs qs n vs H Q E
def wN(cf:Flt->aa)(CD CS:aa)(bs qs:List Str)(n:Nat):Sp:=fun vs H Q E=>HE cf CD CS bs qs n vs H Q E
inductive LL(cf:Flt->aa)(CD CS:aa)(bs qs:List Str)(n:Nat)(vs:List V)(H:Hp)(Q:VK)(E:XK):Prop where
 |mk(H0:Hp)(L:Lay)(h:Ev)(ds:List Int)(w:Wk)(v:V)(D:Dd)(_:vs=[.ref L.d,v])(_:Dg CD CS bs qs H0 H L h ds w)(_:eM bs qs H0 D v)(_:D.deep<n)(_:w.len+4*D.size<400000)(_:uk cf (fun w' G'=>Dg CD CS bs qs H0 G' L h ds w') H0 (w.len+4*D.size) (doD h ds D w) Q E):LL cf CD CS bs qs n vs H Q E
def spDd(cf:Flt->aa)(CD CS:aa)(bs qs:List Str)(n:Nat):Sp:=fun vs H Q E=>LL cf CD CS bs qs n vs H Q E
inductive C7(cf:Flt->aa)(CD CS:aa)(bs qs:List Str)(n:Nat)(vs:List V)(H:Hp)(Q:VK)(E:XK):Prop where
 |mk(H0:Hp)(L:Lay)(h:Ev)(ds:List Int)(w:Wk)(q x:Str)(v:V)(D:Ds)(_:vs=[.ref L.d,.str q,.str x,v])(_:Dg CD CS bs qs H0 H L h ds w)(_:q∈qs)(_:x∈bs)(_:mU H0 (fv bs qs H0 D) v)(_:D.deep<n)(_:w.len+4*D.size<400000)(_:uk cf (fun w' G'=>Dg CD CS bs qs H0 G' L h ds w') H0 (w.len+4*D.size) (doD h ds (.pull q x D) w) Q E):C7 cf CD CS bs qs n vs H Q E
def HF(cf:Flt->aa)(CD CS:aa)(bs qs:List Str)(n:Nat):Sp:=fun vs H Q E=>C7 cf CD CS bs qs n vs H Q E
theorem scPl:bM ["doing","name","box","otherwise","queue"] ["doing","name","box","otherwise"] (aM oh):={}
theorem Kj{n k:Nat}(hk:1<=k)(D:Df K mg "do_pull" oh ["doing","name","box","otherwise"] f fd)(O:Df K mg "do_deeds" iP ["doing","deeds"] fD fdD)(GD:bA P w K mg base (CXo P w) k fD fdD ["doing","deeds"] (wN cf CD CS bs qs n))(U:Mt K CD "fill" "Doing.fill" gN ["self","box","worth"] fF fdF)(M:Mt K CD "queue_of" "Doing.queue_of" eV ["self","name"] fQ fdQ)(T:DT K mg CD)(J:MdT K mg CM CS) :
  bA P w K mg base (CXo P w) (k+1) f fd ["doing","name","box","otherwise"] (HF cf CD CS bs qs n):=by
 have t:bA P w K mg base CX0 1 fF fdF ["self","box","worth"] (zm CD CS bs qs):=zo U T J;have GQ:bA P w K mg base CX0 1 fQ fdQ ["self","name"] (HB CD CS bs qs):=HC M T J;refine D.F.okX scPl (fun vs H Q E h=>?_) (fun I A outer s H vs Q E hr h=>?_)
 ·obtain⟨H0,L,e,ds,w,q,x,v,D,rfl,_⟩:=h;rfl
 obtain⟨H0,L,e,ds,w,q,x,v,D,rfl,g,hq,hx,hv,hn,ho,p⟩:=h;have r1:cQ 1 _:=hr.mono hk;have hu:=lN hr;refine⟨_,ai (bh (i:=4) scPl.nd rfl (Or.inl rfl) (gf (pv 0) T.cl M.m GQ r1 M.b .nil bC (au (pv 1) aj)))
  (ay (cK (vX (pv 4) (fun _=>rfl))
   (ai (d9 (gf (pv 0) T.cl U.m t r1 U.b .nil bC (au (pv 2) (au (nX bV zX zY FR (pv 4) (au aw aj)) aj))))
   (ay (kW hu (cW (pv 0) rfl) (pv 1) lD rfl)))
   (ay (d9 (aL GD hr rfl O.m O.F.kp O.b .nil (dP.passes fun _ _ _ z=>z) (au (pv 0) (au (pv 3) aj))))))),?_⟩
 simp only[doD]at p;refine{_,rfl,L.d,L.dx,_,rfl,g.hd,pO _ _ _ _ _ _ _ _ (by decide +kernel),_,rfl,H0,L,e,ds,w,q,rfl,g,hq,fun G0 l g0 hl Y=>?_};refine{_,rfl,_,.inl {_,SqL.of Y,rfl},?_};have Z:(jN w.qu q).length<=30/\∀n∈jN w.qu q,Wo n:=zl g.ok hq
 cases e1:jN w.qu q with
 |nil=>
  rw[e1]at p;refine gb ?_;exact{_,rfl,_,rfl,H0,L,e,ds,_,v,D,rfl,g0,hv,hn,ho,p}
 |cons m ms=>
  rw[e1]at p Y Z;refine iH ?_;have g1:=g0.queue (x:=q) (l:=l) (ns:=ms) hl (by have:=Z.1;rw[aT]at this;omega) (fun z hz=>Z.2 z (ah _ hz));refine{_,rfl,L.d,L.dx,_,rfl,g0.hd,pO _ _ _ _ _ _ _ _ (by decide +kernel),_,rfl,_,rfl,.inl {rfl,_,SqL.of Y},l,_,_,0,.int m,rfl,rfl,Y,(by decide),(by decide),(yR (n:=((m::ms).map V.int).length) (i:=0) (j:=0) (by unfold ixN;rw[if_pos (by decide),if_pos (by rw[ao,aT];omega)];rfl)).1,rfl,?_};refine{H0,L,e,ds,_,x,m,rfl,g1,hx,Z.2 m aC,fun G2 W=>?_};have g3:=W.wrote (x:=q) (bj _ hq);exact{_,rfl,L.d,CD,L.dx,_,_,rfl,W.hd,T.cl,T.nW,Hr _ _ _ _ _ _ _ _,_,rfl,L.wd,_,rfl,W.putW q,p _ g3 (wO _ _)}
theorem scDd:bM ["doing","deed","kind"] ["doing","deed"] (aM oa):={}
theorem Kk{n k:Nat}(hk:19<=k)(D:Df K mg "do_deed" oa ["doing","deed"] f fd)(DD:Df K mg "do_deeds" iP ["doing","deeds"] fD fdD)(GD:bA P w K mg base (CXo P w) k fD fdD ["doing","deeds"] (wN cf CD CS bs qs n))
  (MF:Mt K CD "fill" "Doing.fill" gN ["self","box","worth"] fF fdF) (MR:Mt K CD "reckon" "Doing.reckon" fj ["self","formula"] fR fdR) (GR:bA P w K mg base (CXo P w) 18 fR fdR ["self","formula"] (um cf CD CS bs qs))
  (J:Df K mg "do_pull" oh ["doing","name","box","otherwise"] fP fdP) (DU:Df K mg "do_push" og ["doing","name","formula"] fU fdU) (GU:bA P w K mg base (CXo P w) 19 fU fdU ["doing","name","formula"] (BU cf CD CS bs qs))
  (DW:Df K mg "do_draw" oj ["doing","box","formula"] fW fdW) (GW:bA P w K mg base (CXo P w) 19 fW fdW ["doing","box","formula"] (zp cf CD CS bs qs)) (DS:Df K mg "do_send" om ["doing","deed"] fS fdS) (GS:bA P w K mg base (CXo P w) 19 fS fdS ["doing","deed"] (BV cf CD CS bs qs)) (MQ:Mt K CD "queue_of" "Doing.queue_of" eV ["self","name"] fQ fdQ) (T:DT K mg CD) (TM:MdT K mg CM CS) :
  bA P w K mg base (CXo P w) (k+2) f fd ["doing","deed"] (spDd cf CD CS bs qs (n+1)):=by
 have GF:bA P w K mg base CX0 1 fF fdF ["self","box","worth"] (zm CD CS bs qs):=zo MF T TM;have GP:bA P w K mg base (CXo P w) (k+1) fP fdP ["doing","name","box","otherwise"] (HF cf CD CS bs qs n):=Kj (by omega) J DD GD MF MQ T TM;refine D.F.okX scDd (fun vs H Q E h=>?_) (fun cx A outer s H vs Q E hr h=>?_)
 ·obtain⟨H0,L,e,ds,w,v,D,rfl,_⟩:=h;rfl
 obtain⟨H0,L,e,ds,w,v,D,rfl,g,hv,hn,ho,p⟩:=h;have r1:cQ 1 _:=hr.mono (by omega);have O:cQ 18 _:=hr.mono (by omega);have W:cQ 19 _:=hr.mono (by omega);have rk:cQ k _:=hr.mono (by omega);refine⟨_,ai (bh (i:=2) scDd.nd rfl (Or.inl rfl) (bP cF (pv 1) aw (fun _ _=>rfl)))
  (ay (cK (bO eN (pv 2) cb (bX _)) (ay (d9 (gf (pv 0) T.cl MF.m GF r1 MF.b .nil bC (au (bP cF (pv 1) aw (fun _ _=>rfl)) (au (gf (pv 0) T.cl MR.m GR O MR.b .nil (dP.passes fun _ _ _ z=>z) (au (bP cF (pv 1) aw (fun _ _=>rfl)) aj)) aj)))))
  (ay (cK (bO eN (pv 2) cb (bX _)) (ay (d9 (aL GU W rfl DU.m DU.F.kp DU.b .nil (dP.passes fun _ _ _ z=>z) (au (pv 0) (au (bP cF (pv 1) aw (fun _ _=>rfl)) (au (bP cF (pv 1) aw (fun _ _=>rfl)) aj))))))
  (ay (cK (bO eN (pv 2) cb (bX _)) (ay (d9 (aL GP hr rfl J.m J.F.kp J.b .nil (dP.passes fun _ _ _ z=>z) (au (pv 0) (au (bP cF (pv 1) aw (fun _ _=>rfl)) (au (bP cF (pv 1) aw (fun _ _=>rfl)) (au (bP cF (pv 1) aw (fun _ _=>rfl)) aj)))))))
  (ay (cK (bO eN (pv 2) cb (bX _)) (ay (d9 (aL GW W rfl DW.m DW.F.kp DW.b .nil (dP.passes fun _ _ _ z=>z) (au (pv 0) (au (bP cF (pv 1) aw (fun _ _=>rfl)) (au (bP cF (pv 1) aw (fun _ _=>rfl)) aj))))))
  (ay (cK (bO eN (pv 2) cb (bX _)) (ay (d9 (aL GS W rfl DS.m DS.F.kp DS.b .nil (dP.passes fun _ _ _ z=>z) (au (pv 0) (au (pv 1) aj)))))
  (ay (cK (bO eN (pv 2) cb (bX _)) (ay (d9 (aL GD rk rfl DD.m DD.F.kp DD.b .nil (dP.passes fun _ _ _ z=>z) (au (pv 0) (au (vS (bO Cf (gf (pv 0) T.cl MR.m GR O MR.b .nil (dP.passes fun _ _ _ z=>z) (au (bP cF (pv 1) aw (fun _ _=>rfl)) aj)) aw (bX _)) (bP cF (pv 1) aw (fun _ _=>rfl)) (bP cF (pv 1) aw (fun _ _=>rfl))) aj)))))
  (ay (cK (bO eN (pv 2) cb (bX _)) (ay (eJ (pv 0) lD rfl)) bS)))))))))))))),?_⟩
 have no:∀{m:Str},BQ.contains m=false->(dF L.m L.hv L.st L.wd L.od w.en L.rd L.ud).lookup m=none:=fun z=>pO _ _ _ _ _ _ _ _ z;have nx:∀{a b:Str} {p1 p2:Prop},(a==b)=false->p2->(if decide (V.str a=V.str b)=true then p1 else p2):=fun z q=>oy (vh (sne z)) (gb q);have U:∀{a:Str} {p1 p2:Prop},p1->(if decide (V.str a=V.str a)=true then p1 else p2):=fun q=>oy (EI _) (iH q);have fw:w.len<400000:=by omega
 cases D with
 |put x F=>
  obtain⟨t,u,rfl,ht,hx,Y⟩:=(by simpa only[eM] using hv);have Z:=SqT.of (K:=K) (g.sm _ _ ht);simp only[doD]at p;refine{_,rfl,t,_,_,_,rfl,rfl,Z,rfl,_,rfl,rfl,_,rfl,U ?_};refine{_,rfl,L.d,L.dx,_,rfl,g.hd,no (by decide +kernel),_,rfl,t,_,_,_,rfl,rfl,Z,rfl,?_};refine{_,rfl,L.d,L.dx,_,rfl,g.hd,no (by decide +kernel),_,rfl,t,_,_,_,rfl,rfl,Z,rfl,H0,L,e,ds,w,u,F,rfl,g,Y,fw,fun G1 g1=>?_};refine lW p g1.sm fun m em p=>?_;exact{H0,L,e,ds,_,x,m,rfl,g1,hx,uS g1.asks (Y.1.same g1.sm) em,fun G' g'=>p G' g' (BR (w:=w) (F:=F))}
 |push x F=>
  obtain⟨t,u,rfl,ht,hx,Y⟩:=(by simpa only[eM] using hv);have Z:=SqT.of (K:=K) (g.sm _ _ ht);refine{_,rfl,t,_,_,_,rfl,rfl,Z,rfl,_,rfl,rfl,_,rfl,nx (by decide +kernel) ?_};refine{_,rfl,rfl,_,rfl,U ?_};exact{_,rfl,_,rfl,t,_,_,_,rfl,rfl,Z,rfl,_,rfl,t,_,_,_,rfl,rfl,Z,rfl,H0,L,e,ds,w,x,u,F,rfl,g,hx,Y,fw,p}
 |pull q x o=>
  obtain⟨t,u,rfl,ht,hq,hx,hl⟩:=(by simpa only[eM] using hv);have Z:=SqT.of (K:=K) (g.sm _ _ ht);simp only[Dd.deep]at hn;simp only[Dd.size]at ho p;refine{_,rfl,t,_,_,_,rfl,rfl,Z,rfl,_,rfl,rfl,_,rfl,nx (by decide +kernel) ?_};refine{_,rfl,rfl,_,rfl,nx (by decide +kernel) ?_};refine{_,rfl,rfl,_,rfl,U ?_};exact{_,rfl,_,rfl,t,_,_,_,rfl,rfl,Z,rfl,_,rfl,t,_,_,_,rfl,rfl,Z,rfl,_,rfl,t,_,_,_,rfl,rfl,Z,rfl,H0,L,e,ds,w,q,x,u,o,rfl,g,hq,hx,hl,(by omega),(by omega),p.le (by omega)}
 |draw x F=>
  obtain⟨t,u,rfl,ht,hx,Y⟩:=(by simpa only[eM] using hv);have Z:=SqT.of (K:=K) (g.sm _ _ ht);refine{_,rfl,t,_,_,_,rfl,rfl,Z,rfl,_,rfl,rfl,_,rfl,nx (by decide +kernel) ?_};refine{_,rfl,rfl,_,rfl,nx (by decide +kernel) ?_};refine{_,rfl,rfl,_,rfl,nx (by decide +kernel) ?_};refine{_,rfl,rfl,_,rfl,U ?_};exact{_,rfl,_,rfl,t,_,_,_,rfl,rfl,Z,rfl,_,rfl,t,_,_,_,rfl,rfl,Z,rfl,H0,L,e,ds,w,x,u,F,rfl,g,hx,Y,fw,p}
 |send to sg F rk F1 F2=>
  obtain⟨t,u,u1,u2,rfl,ht,Y,dc,da⟩:=(by simpa only[eM] using hv);have Z:=SqT.of (K:=K) (g.sm _ _ ht);simp only[Dd.size]at ho p;refine{_,rfl,t,_,_,_,rfl,rfl,Z,rfl,_,rfl,rfl,_,rfl,nx (by decide +kernel) ?_};refine{_,rfl,rfl,_,rfl,nx (by decide +kernel) ?_};refine{_,rfl,rfl,_,rfl,nx (by decide +kernel) ?_};refine{_,rfl,rfl,_,rfl,nx (by decide +kernel) ?_};refine{_,rfl,rfl,_,rfl,U ?_};exact{_,rfl,_,rfl,H0,L,e,ds,w,t,u,u1,u2,to,sg,rk,F,F1,F2,rfl,g,ht,Y,dc,da,(by omega),p}
 |ife F x y=>
  obtain⟨t,u,u1,u2,rfl,ht,Y,hX,hY⟩:=(by simpa only[eM] using hv);simp only[Dd.deep]at hn;simp only[Dd.size]at ho p;simp only[doD]at p;have Z:=SqT.of (K:=K) (g.sm _ _ ht);refine{_,rfl,t,_,_,_,rfl,rfl,Z,rfl,_,rfl,rfl,_,rfl,nx (by decide +kernel) ?_};refine{_,rfl,rfl,_,rfl,nx (by decide +kernel) ?_};refine{_,rfl,rfl,_,rfl,nx (by decide +kernel) ?_};refine{_,rfl,rfl,_,rfl,nx (by decide +kernel) ?_};refine{_,rfl,rfl,_,rfl,nx (by decide +kernel) ?_};refine{_,rfl,rfl,_,rfl,U ?_};refine{_,rfl,_,rfl,L.d,L.dx,_,rfl,g.hd,no (by decide +kernel),_,rfl,t,_,_,_,rfl,rfl,Z,rfl,H0,L,e,ds,w,u,F,rfl,g,Y,fw,fun G1 g1=>?_};have M:=SqT.of (K:=K) (g1.sm _ _ ht);have I:Wk.len {w with rk:=w.rk++[F]}=w.len+1:=by
   show w.out.length+(w.rk++[F]).length=w.out.length+w.rk.length+1;rw[aA];rfl
  refine lW p g1.sm fun m em p=>?_;refine{rfl,_,rfl,?_}
  by_cases c:m=0
  ·subst c;rw[if_pos rfl]at p;refine oy (b:=false) rfl (gb ?_);exact{_,rfl,t,_,_,_,rfl,rfl,M,rfl,H0,L,e,ds,_,u2,y,rfl,g1,hY,(by omega),(by rw[I];omega),p.le (by rw[I];omega)}
  ·rw[if_neg c]at p;refine oy (b:=true) (by rw[decide_eq_false (fun z=>c (zk z))];rfl) (iH ?_);exact{_,rfl,t,_,_,_,rfl,rfl,M,rfl,H0,L,e,ds,_,u1,x,rfl,g1,hX,(by omega),(by rw[I];omega),p.le (by rw[I];omega)}
 |fin=>
  obtain⟨t,rfl,ht⟩:=(by simpa only[eM] using hv);have Z:=SqT.of (K:=K) (g.sm _ _ ht);simp only[doD]at p;refine{_,rfl,t,_,_,_,rfl,rfl,Z,rfl,_,rfl,rfl,_,rfl,nx (by decide +kernel) ?_};refine{_,rfl,rfl,_,rfl,nx (by decide +kernel) ?_};refine{_,rfl,rfl,_,rfl,nx (by decide +kernel) ?_};refine{_,rfl,rfl,_,rfl,nx (by decide +kernel) ?_};refine{_,rfl,rfl,_,rfl,nx (by decide +kernel) ?_};refine{_,rfl,rfl,_,rfl,nx (by decide +kernel) ?_};refine{_,rfl,rfl,_,rfl,U ?_};refine{_,rfl,L.d,CD,L.dx,_,rfl,g.hd,T.cl,T.nE,N0 _ _ _ _ _ _ _ _,?_};rw[NV];exact p _ g.ended (wO _ _)
theorem scDs:bM ["doing","deeds","deed"] ["doing","deeds"] (aM iP):={}
theorem EM{n k:Nat}(D:Df K mg "do_deeds" iP ["doing","deeds"] f fd)(J:Df K mg "do_deed" oa ["doing","deed"] f1 fd1)(G1:bA P w K mg base (CXo P w) k f1 fd1 ["doing","deed"] (spDd cf CD CS bs qs n)) :
  bA P w K mg base (CXo P w) (k+1) f fd ["doing","deeds"] (wN cf CD CS bs qs n):=by
 refine D.F.okX scDs (fun vs H Q E h=>?_) (fun bG A outer s H vs Q E hr h=>?_)
 ·obtain⟨H0,L,e,ds,w,v,D,rfl,_⟩:=h;rfl
 obtain⟨H0,L,e,ds,w,v,D,rfl,g,⟨l,vs,rfl,hl,t,hD⟩,hn,ho,p⟩:=h;refine{_,ay (jo dP.own rfl (iU (pv 1)) (dO (i:=2) scDs.nd rfl (Or.inl rfl)) (ay (d9 (aL G1 hr rfl J.m J.F.kp J.b .nil (dP.passes fun _ _ _ z=>z) (au (pv 0) (au (pv 2) aj)))))),?_};refine⟨_,rfl,l,rfl,{_,SqL.of (g.sm _ _ hl)},j7 (K:=K) (a:=l) (xs:=vs) (fun i σ G=>∃(W:Ds) (Y:Wk) (u:Option V),σ=[some (.ref L.d),some (.ref l),u]/\Dg CD CS bs qs H0 G L e ds Y/\fv bs qs H0 W (vs.drop i)/\W.deep<n/\Y.len+4*W.size<=w.len+4*D.size /\
  uk cf (fun Y G'=>Dg CD CS bs qs H0 G' L e ds Y) H0 (w.len+4*D.size) (doS e ds W Y) Q E) {D,w,none,rfl,g,hD,hn,aD _,p} ?_ ?_ ?_⟩
 ·rintro i σ G _ ⟨W,Y,u,rfl,g',_⟩;exact SqL.of (g'.sm _ _ hl)
 ·rintro i x σ G hi ⟨W,Y,u,rfl,g',Z,M,O,U⟩;have lt:i<vs.length:=(aG.mp hi).1;have hx:vs[i]=x:=(aG.mp hi).2;rw[zq lt,hx]at Z
  cases W with
  |nil=>
   simp only[fv]at Z
   cases Z
  |cons d r=>
   obtain⟨v0,vr,ev,hd,I⟩:=(by simpa only[fv] using Z)
   cases ev;simp only[Ds.deep]at M;simp only[Ds.size]at O;refine{_,rfl,_,rfl,H0,L,e,ds,Y,x,d,rfl,g',hd,(by omega),(by omega),?_};simp only[doS]at U
   cases ed:doD e ds d Y with
   |error er=>
    rw[ed]at U;exact U
   |ok w2=>
    rw[ed]at U;intro G2 g2 l2;exact{r,w2,_,rfl,g2,I,(by omega),(by omega),U}
 ·rintro σ G ⟨W,Y,u,rfl,g',Z,M,O,U⟩;rw[IX]at Z
  cases W with
  |nil=>
   simp only[doS]at U;exact U G g' (by omega)
  |cons d r=>
   obtain⟨v0,vr,ev,_⟩:=(by simpa only[fv] using Z)
   cases ev
theorem oA(D:Df K mg "do_deeds" iP ["doing","deeds"] f fd)(Z:Df K mg "do_deed" oa ["doing","deed"] f1 fd1)
  (O:Mt K CD "fill" "Doing.fill" gN ["self","box","worth"] fF fdF) (U:Mt K CD "reckon" "Doing.reckon" fj ["self","formula"] fR fdR) (J:bA P w K mg base (CXo P w) 18 fR fdR ["self","formula"] (um cf CD CS bs qs))
  (g:Df K mg "do_pull" oh ["doing","name","box","otherwise"] fP fdP) (DU:Df K mg "do_push" og ["doing","name","formula"] fU fdU) (Y:bA P w K mg base (CXo P w) 19 fU fdU ["doing","name","formula"] (BU cf CD CS bs qs))
  (I:Df K mg "do_draw" oj ["doing","box","formula"] fW fdW) (W:bA P w K mg base (CXo P w) 19 fW fdW ["doing","box","formula"] (zp cf CD CS bs qs)) (z:Df K mg "do_send" om ["doing","deed"] fS fdS) (V:bA P w K mg base (CXo P w) 19 fS fdS ["doing","deed"] (BV cf CD CS bs qs)) (t:Mt K CD "queue_of" "Doing.queue_of" eV ["self","name"] fQ fdQ) (T:DT K mg CD) (TM:MdT K mg CM CS) :
  ∀n:Nat,bA P w K mg base (CXo P w) (20+3*n) f fd ["doing","deeds"] (wN cf CD CS bs qs n)
 |0=>by
  have M:∀vs H Q E,¬wN cf CD CS bs qs 0 vs H Q E:=fun vs H Q E h=>by
   obtain⟨H0,L,e,ds,w,v,D,_,_,_,hn,_⟩:=h;omega
  exact{fun vs H Q E h=>absurd h (M vs H Q E),fun A outer s H args us vs Q E _ _ _ _ h=>absurd h (M vs H Q E)}
 |n+1=>EM D Z (Kk (n:=n) (k:=20+3*n) (by omega) Z D (oA D Z O U J g DU Y I W z V t T TM n) O U J g DU Y I W z V t T TM)
end
end My
namespace L2
open PySem PySem.Spec PyProof.Rows
theorem BX{X:Cx}:lF X (.type "dict") (fun xs H Q=>∃d kvs,xs=[V.ref d]/\H d=some (.dK kvs)/\∀p,H p=none->Q (.ref p) (upd H p (.dK kvs))):=by
 intro pins s σ H xs us Q I r h;obtain⟨d,kvs,rfl,hd,q⟩:=h;obtain⟨u,rfl,ru⟩:=vals1 r
 cases ru;obtain⟨Z,n1,U,k1,Y⟩:=(show eE X.prog X.w H s.heap d (.dK kvs) from I.hok d _ hd);refine kt_call_dict (knd:=eY X.prog X.w) n1 Y (by rw[<- k1.length];exact Z) fun h' W sb=>?_;have kk:∀b o,s.heap.get? b=some o->h'.get? b=some o:=fun b o e=>(sb.2 b (aR (aQ e))).trans (aJ _ e);exact{.ref s.heap.objs.size,_,I.laid (a:=s.heap.objs.size) (o:=.dK kvs) (t':=s.toks) kk (aD _) (yW Z (beq_eq_false_iff_ne.mpr (gj (aR I.big))) k1 W),rfl,q _ (I.hok.fresh (aD _))}
end L2
namespace My
open PySem L2
def jO(CS:aa)(H:Hp)(st:aa)(bx:List (Str×Int))(qu:List (Str×List Int))(dr:Nat)(se:Int):Prop:=
 ∃dx bd qd qa,H st=some (.ins CS dx (pz (.ref bd) (.ref qd) (.int dr) (.int se)))/\H bd=some (.dK (boK bx))/\H qd=some (.dK (quK qa))/\gE H qa qu
theorem gE.same{G G':Hp}(s:aV G G'){qa:List (Str×aa)}{qu:List (Str×List Int)}(q:gE G qa qu):gE G' qa qu:=
 gE.keep (L:={0,0,0,0,0,0,0,0,0,0,.non,.non,qa}) (fun a u e _=>s _ _ e) (fun _ h=>h) q
theorem jO.same{CS:aa}{H H':Hp}(s:aV H H'){st:aa}{bx:List (Str×Int)}{qu:List (Str×List Int)}{dr:Nat}{se:Int}(h:jO CS H st bx qu dr se):jO CS H' st bx qu dr se:=by
 obtain⟨dx,bd,qd,qa,h1,h2,Y,Z⟩:=h;exact{dx,bd,qd,qa,s _ _ h1,s _ _ h2,s _ _ Y,Z.same s}
structure HG(CS:aa)(H G:Hp)(st:aa)(bx:List (Str×Int))(qu:List (Str×List Int))(dr:Nat)(se:Int)(dxs bd qd:aa)(qa:List (Str×aa)):Prop where
 sm:aV H G
 hst:G st=some (.ins CS dxs (pz (.ref bd) (.ref qd) (.int dr) (.int se)))
 hb:G bd=some (.dK (boK bx))
 hq:G qd=some (.dK (quK qa))
 hl:gE G qa qu
 nd:(st::bd::qd::qa.map (·.2)).Nodup
 fr:∀a∈st::bd::qd::qa.map (·.2),H a=none
inductive C8(CS:aa)(vs:List V)(H:Hp)(Q:VK)(_e:XK):Prop where
 |mk(st:aa)(bx:List (Str×Int))(qu:List (Str×List Int))(dr:Nat)(se:Int)(_:vs=[.ref st])(_:jO CS H st bx qu dr se)(_:(qu.map (·.1)).Nodup)(_:qu.length<100)(_:∀(G:Hp) (st' dxs bd qd:aa) (qa:List (Str×aa)),HG CS H G st' bx qu dr se dxs bd qd qa->Q (.ref st') G):C8 CS vs H Q _e
def BY(CS:aa):Sp:=fun vs H Q Z=>C8 CS vs H Q Z
theorem Kl{qa:List (Str×aa)}{x:Str}{l:aa}(h:x∉qa.map (·.1)):ja (quK qa) (Sum.inr x) (.ref l)=quK (qa++[(x,l)]):=by
 have e:qa.lookup x=none:=by
  cases z:qa.lookup x with
  |none=>rfl
  |some a=>exact absurd (cB.mpr {_,qL z,rfl}) h
 unfold ja;have v:jL (quK qa) (Sum.inr x)=none:=by
  have z:=sX V.ref x qa;rw[e]at z;exact z
 rw[kf,v];show (if false=true then _ else _)=_;rw[if_neg (by decide)];unfold quK;rw[bT];rfl
theorem C9(qa:List (Str×aa)):(quK qa).length=qa.length:=ao _
theorem gE.len{G:Hp}{qa:List (Str×aa)}{qu:List (Str×List Int)}(q:gE G qa qu):qa.length=qu.length:=aZ q
theorem gE.nm{G:Hp}:∀{qa:List (Str×aa)} {qu:List (Str×List Int)},gE G qa qu->qa.map (·.1)=qu.map (·.1)
 |_,_,.nil=>rfl
 |_::_,_::_,.cons a b=>by rw[b9,b9,a.1,gE.nm b]
theorem gE.nth{G:Hp}:∀{qa:List (Str×aa)} {qu:List (Str×List Int)} {i:Nat} {p:Str×aa},gE G qa qu->qa[i]?=some p->∃q,qu[i]?=some q/\p.1=q.1/\G p.2=some (.lst (q.2.map V.int))
 |_,_,i,p,.nil,h=>by simp at h
 |_::_,_::_,0,p,.cons a b,h=>by
  simp at h;subst h;exact{_,rfl,a.1,a.2}
 |_::_,_::_,i+1,p,.cons a b,h=>by
  obtain⟨q,h1,h2⟩:=gE.nth (i:=i) (p:=p) b (by simpa using h);exact{q,by simpa using h1,h2}
section
variable{P:aN}{w:bL}{K:ae}{mg:Str->Option af}{base:cz}{f fI CD CS CM:aa}{fd fdI:bR}
theorem Kn:bM ["self","queues","name","worths"] ["self"] (aM iY):={}
theorem kY(F:Fun K "copy" "State.copy" iY f fd)(MS:Mk K CS fI)(FI:Fun K "__init__" "State.__init__" jC fI fdI)(bI:Binds K fdI ["self","boxes","queues","drawn","sent"] [])(B:Bl mg)(T:MdT K mg CM CS) :
  bA P w K mg base CX0 3 f fd ["self"] (BY CS):=by
 have GI:bA P w K mg base CX0 1 fI fdI ["self","boxes","queues","drawn","sent"] (NO CS):=LB FI T;refine F.ok Kn (fun vs H Q E h=>?_) (fun dj A outer s H vs Q E hr h=>?_)
 ·obtain⟨st,bx,qu,dr,se,rfl,_⟩:=h;rfl
 obtain⟨st,bx,qu,dr,se,rfl,⟨dx,bd,qd,qa,hst,hb,hq,hl⟩,ea,lq,k⟩:=h;have hu:=lN hr;refine⟨_,ai (bh (i:=1) Kn.nd rfl (Or.inl rfl) qv)
  (ai (Cz (jo cO rfl (Au (cW (pv 0) rfl)) (vT rfl (jg (dO (i:=2) Kn.nd rfl (Or.inl rfl)) (jg (dO (i:=3) Kn.nd rfl (Or.inl rfl)) sI))) (ay (kW hu (pv 1) (pv 2) (hJ oR (by rfl) B.list boot_list (au (pv 3) aj)) rfl))))
  (ay (bN (jW MS GI hr (by rfl) T.mS bI .nil bC (au (hJ BX (by rfl) B.dict boot_dict (au (cW (pv 0) rfl) aj)) (au (pv 1) (au (cW (pv 0) rfl) (au (cW (pv 0) rfl) aj)))))))),?_⟩
 intro d hd;have s1:aV H (upd H d (.dK [])):=aF hd _;have nf:∀(ob:Obj) (u:HO),H qd≠some (.frz ob u):=fun ob u z=>by
  rw[hq]at z
  cases z
 have D:d≠qd:=(av hq hd).symm;have dn:(qa.map (·.1)).Nodup:=by
  rw[hl.nm];exact ea
 refine{_,rfl,st,CS,dx,_,_,rfl,s1 _ _ hst,T.clS,T.nQ,Kc _ _ _ _,qd,_,rfl,s1 _ _ hq,nf,fun od=>?_};refine yk (d:=qd) (od:=od) (kvs:=quK qa) (fun i σ G=>∃(v2 v3:Option V) (Z:List (Str×aa)),σ=[some (.ref st),some (.ref d),v2,v3]/\G qd=some (.frz od (.dK (quK qa)))/\(∀b o,H b=some o->b≠qd->G b=some o)/\G d=some (.dK (quK Z)) /\
  gE G Z (qu.take i)/\(Z.map (·.2)).Nodup/\∀a∈Z.map (·.2),H a=none/\a≠d) {none,none,[],rfl,ag,fun b o e n=>?_,?_,?_,ic,fun a h=>by cases h} ?_ ?_ ?_
 ·rw[aO n];exact s1 _ _ e
 ·rw[aO D];exact ag
 ·rw[jQ];exact .nil
 ·rintro i σ G _ ⟨_,_,_,_,h1,_⟩;exact h1
 ·rintro i kv t σ G hi ⟨v2,v3,Z,rfl,g1,g2,g3,I,g5,g6⟩ ht;obtain⟨p,hp,rfl⟩:∃p,qa[i]?=some p/\kv=((Sum.inr p.1:Key),V.ref p.2):=by
   unfold quK at hi;rw[cC]at hi
   cases z:qa[i]? with
   |none=>
    rw[z]at hi
    cases hi
   |some p=>
    rw[z]at hi
    cases hi;exact⟨p,rfl,rfl⟩
  obtain⟨q,ee,em,eb⟩:=hl.nth hp;have W:=aF ht (.tup [kV (Sum.inr p.1),.ref p.2]);have dv:p.2≠qd:=pG eb hq (by intro z;cases z);refine{t,_,rfl,SqT.of ag,rfl,_,_,rfl,_,_,rfl,rfl,?_};refine{_,rfl,p.2,_,rfl,.inl (SqL.of (W _ _ (g2 _ _ eb dv))),fun l ei=>?_};have sl:=aF ei (.lst (q.2.map V.int));have dV:=sl _ _ (W _ _ g3);have de:i<qu.length:=(aG.mp ee).1;have tk:(qu.take (i+1))=qu.take i++[q]:=by
   rw[eR,ee];rfl
  have dL:p.1∉Z.map (·.1):=by
   rw[I.nm,em];intro z;have ek:((qu.take (i+1)).map (·.1)).Nodup:=by
    rw[zZ];exact ea.sublist (nU _ _)
   rw[tk,bT]at ek;exact (gX.mp ek).2.2 _ z q.1 (by simp) rfl
  have el:(quK Z).length<aB:=by
   have z:=I.len;rw[c9]at z;rw[C9];have:=dW;omega
  have dp:=sQ.k (k:=Sum.inr p.1) (v:=.ref l) dV el;rw[Kl dL]at dp;refine{_,rfl,_,rfl,d,_,rfl,dp,?_};have Y:G l=none:=by
   cases z:G l with
   |none=>rfl
   |some o=>
    have:=W _ _ z;rw[ei]at this
    cases this
  have dt:H l=none:=by
   cases z:H l with
   |none=>rfl
   |some o=>
    by_cases c:l=qd
    ·rw[c,g1]at Y
     cases Y
    ·rw[g2 _ _ z c]at Y
     cases Y
  have ej:l≠d:=fun z=>by rw[z,g3]at Y;cases Y
  refine{_,_,Z++[(p.1,l)],rfl,?_,fun b o e n=>?_,ag,?_,?_,fun a ha=>?_}
  ·rw[aO D.symm];exact sl _ _ (W _ _ g1)
  ·rw[aO (av e hd)];exact sl _ _ (W _ _ (g2 _ _ e n))
  ·rw[tk];have old:gE (upd (upd (upd G t (.tup [kV (Sum.inr p.1),.ref p.2])) l (.lst (q.2.map V.int))) d (.dK (quK (Z++[(p.1,l)])))) Z (qu.take i):=
    gE.keep (L:={0,0,0,0,0,0,0,0,0,0,.non,.non,Z}) (fun a u e m=>aS (sl _ _ (W _ _ e)) (g6 a m).2) (fun _ h=>h) I
   exact eP old {em,aS ag ej}
  ·rw[bT];refine gX.mpr {g5,by simp,fun a ha b hb=>?_};rw[aE.mp hb];intro z;obtain⟨pp,g,e⟩:=cB.mp ha;obtain⟨j,hj⟩:=dH g;obtain⟨_,_,_,y⟩:=I.nth hj;rw[e,z,Y]at y
   cases y
  ·rw[bT]at ha
   rcases bY.mp ha with z|z
   ·exact g6 a z
   ·rw[aE.mp z];exact⟨dt,ej⟩
 ·rintro σ G ⟨v2,v3,Z,rfl,g1,g2,g3,I,g5,g6⟩;rw[C9,hl.len,dZ]at I;refine{qd,od,_,g1,nf,?_};have O:aV H (upd G qd (.dK (quK qa))):=fun b o e=>by
   by_cases c:b=qd
   ·rw[c,ag];rw[c,hq]at e;exact e
   ·rw[aO c];exact g2 _ _ e c
  have U:upd G qd (.dK (quK qa)) d=some (.dK (quK Z)):=aS g3 D;have J:gE (upd G qd (.dK (quK qa))) Z qu:=
   gE.keep (L:={0,0,0,0,0,0,0,0,0,0,.non,.non,Z}) (fun a u e m=>aS e (av hq (g6 a m).1).symm) (fun _ h=>h) I
  generalize upd G qd (.dK (quK qa))=G2 at O U J;refine{_,rfl,st,CS,dx,_,_,rfl,O _ _ hst,T.clS,T.nB,J6 _ _ _ _,bd,_,rfl,O _ _ hb,fun e he=>?_};have s3:=aF he (.dK (boK bx));refine{_,rfl,_,rfl,st,CS,dx,_,_,rfl,s3 _ _ (O _ _ hst),T.clS,T.nD,NY _ _ _ _,_,rfl,st,CS,dx,_,_,rfl,s3 _ _ (O _ _ hst),T.clS,T.nS,NZ _ _ _ _,?_};intro x ef nx dz di;refine{x,ef,_,_,_,_,rfl,ag,fun H' hx bt=>{rfl,?_}};have sm:aV (upd G2 e (.dK (boK bx))) H':=fun b o e2=>by
   have cx:b≠x:=av e2 nx;refine bt b o ?_ cx;rw[aO cx,aO (av e2 dz)];exact e2
  have M:=s3.trans sm;have fresh:∀{a:aa},upd G2 e (.dK (boK bx)) a=none->H a=none:=fun {a} z=>by
   cases y:H a with
   |none=>rfl
   |some o=>
    rw[s3 _ _ (O _ _ y)]at z
    cases z
  have dG:H e=none:=by
   cases y:H e with
   |none=>rfl
   |some o=>
    rw[O _ _ y]at he
    cases he
  refine k H' x ef e d Z {O.trans M,hx,sm _ _ ag,M _ _ U,J.same M,?_,?_}
  ·have eh:x≠e:=(av (ag:upd G2 e (.dK (boK bx)) e=_) nx).symm;have ed:x≠d:=(av (s3 _ _ U) nx).symm;have ec:e≠d:=(av U he).symm;have ql:∀a∈Z.map (·.2),∃o,G2 a=some o:=fun a ha=>by
    obtain⟨pp,g,e⟩:=cB.mp ha;obtain⟨j,hj⟩:=dH g;obtain⟨_,_,_,y⟩:=J.nth hj;rw[<- e];exact{_,y}
   refine cG.mpr {fun z=>?_,cG.mpr {fun z=>?_,cG.mpr {fun z=>(g6 d z).2 rfl,g5}}}
   ·rcases ar.mp z with z|z
    ·exact eh z
    ·rcases ar.mp z with z|z
     ·exact ed z
     ·obtain⟨o,y⟩:=ql x z;exact (av (s3 _ _ y) nx) rfl
   ·rcases ar.mp z with z|z
    ·exact ec z
    ·obtain⟨o,y⟩:=ql e z;exact (av y he) rfl
  ·intro a ha
   rcases ar.mp ha with z|z
   ·rw[z];exact fresh nx
   ·rcases ar.mp z with z|z
    ·rw[z];exact dG
    ·rcases ar.mp z with z|z
     ·rw[z];exact hd
     ·exact (g6 a z).1
end
theorem Dg.base{CD CS:aa}{bs qs:List Str}{H0 Z G G':Hp}{L:Lay}{h:Ev}{ds:List Int}{w:Wk}(g:Dg CD CS bs qs H0 G L h ds w)(s:aV G G')(Y:aV H0 Z)(O:aV Z G')(fr:∀a∈L.all,Z a=none):Dg CD CS bs qs Z G' L h ds w:=by
 obtain⟨t,x1,W,U,M,dl,V,hm,hdl⟩:=g.hm;have g':=g.same s;obtain⟨rs,r1,r2⟩:=g'.hr;exact{O,g'.hd,g'.hst,g'.hb,g'.hq,g'.hl,g'.hw,g'.ho,{rs,r1,Paired.mono (fun _ _ z=>z.same Y) r2},g'.hu,g.hh.same Y,{t,x1,W,U,M,dl,V,Y _ _ hm,Y _ _ hdl},g.nd,fr,g.ok,g.wt,g.wa,g.wb}
theorem gE.there{G:Hp}{qa:List (Str×aa)}{qu:List (Str×List Int)}(q:gE G qa qu){a:aa}(h:a∈qa.map (·.2)):∃xs,G a=some (.lst xs):=by
 obtain⟨W,Z,e⟩:=cB.mp h;obtain⟨j,Y⟩:=dH Z;obtain⟨_,_,_,y⟩:=q.nth Y;rw[<- e];exact{_,y}
theorem Dg.there{CD CS:aa}{bs qs:List Str}{H0 G:Hp}{L:Lay}{h:Ev}{ds:List Int}{w:Wk}(g:Dg CD CS bs qs H0 G L h ds w):∀a∈L.all,∃o,G a=some o:=fun a ha=>by
 obtain⟨vs,Z,_⟩:=g.ho;obtain⟨rs,r1,_⟩:=g.hr;unfold Lay.all at ha;simp only[ar]at ha
 rcases ha with rfl|rfl|rfl|rfl|rfl|rfl|rfl|rfl|ha
 ·exact{_,g.hd}
 ·exact{_,g.hst}
 ·exact{_,g.hb}
 ·exact{_,g.hq}
 ·exact{_,g.hw}
 ·exact{_,Z}
 ·exact{_,r1}
 ·exact{_,g.hu}
 ·obtain⟨xs,e⟩:=g.hl.there ha;exact{_,e}
def EN(bs qs:List Str)(H:Hp)(v:V)(p:Str×Ds):Prop:=∃t u,v=.ref t/\H t=some (.tup [.str p.1,u])/\mU H (fv bs qs H p.2) u
def jG(hs:List (Str×Ds))(sg:Str):Ds:=(hs.lookup sg).getD .nil
theorem EN.same{bs qs:List Str}{H H':Hp}(s:aV H H'){v:V}{p:Str×Ds}(h:EN bs qs H v p):EN bs qs H' v p:=by
 obtain⟨t,u,e,h1,h2⟩:=h;exact{t,u,e,s _ _ h1,h2.same s (fv.same s p.2)}
section
variable{P:aN}{w:bL}{K:ae}{mg:Str->Option af}{base:cz}{f fC fI CD CS CM:aa}{fd fdC fdI:bR}{bs qs:List Str}
theorem gu{G:Hp}{a b:aa}{o:HO}(h:upd G a o b=none):b≠a/\G b=none:=by
 by_cases c:b=a
 ·rw[c,ag]at h
  cases h
 ·rw[aO c]at h;exact⟨c,h⟩
theorem AH{G:Hp}{d wd od rd ud a:aa}{i3 O J M U o:HO}(W:G wd=none)(Y:G od=none)(V:G rd=none)(Z:G ud=none)(e:G a=some o)(n:a≠d):upd (upd (upd (upd (upd (upd (upd (upd (upd G d i3) wd (.dK [])) d O) od (.lst [])) d J) rd (.lst [])) d M) ud (.dK [])) d U a=some o:=
 aS (aS (aS (aS (aS (aS (aS (aS (aS e n) (av e W)) n) (av e Y)) n) (av e V)) n) (av e Z)) n
inductive LM(CD CS:aa)(bs qs:List Str)(vs:List V)(H:Hp)(Q:VK)(_e:XK):Prop where
 |mk(H0:Hp)(d dx st:aa)(m hv:V)(h:Ev)(ds:List Int)(bx:List (Str×Int))(qu:List (Str×List Int))(dr:Nat)(se:Int)(_:vs=[.ref d,m,.ref st,hv])(_:H d=some (.ins CD dx []))(_:H0 d=none)(_:aV H0 H)(_:jO CS H0 st bx qu dr se)(_:hZ H0 hv h)(_:(∃t x1 x2 x3 x4 dl,m=.ref t/\H0 t=some (.tup [x1,x2,x3,.ref dl,x4])/\H0 dl=some (.lst (ds.map V.int))))(_:qK bs qs ⟨bx,qu,dr,se,[],[],false,[],[]⟩)(_:Wo h.t)(_:Wo h.a)(_:Wo h.b)(_:∀(G:Hp) (L:Lay),L.d=d->L.m=m->Dg CD CS bs qs H0 G L h ds ⟨bx,qu,dr,se,[],[],false,[],[]⟩->Q .non G):LM CD CS bs qs vs H Q _e
def N2(CD CS:aa)(bs qs:List Str):Sp:=fun vs H Q Z=>LM CD CS bs qs vs H Q Z
theorem scDI:bM ["self","machine","state","happening"] ["self","machine","state","happening"] (aM oY):={}
theorem AI(F:Fun K "__init__" "Doing.__init__" oY f fd)(MC:Mt K CS "copy" "State.copy" iY ["self"] fC fdC)(GC:bA P w K mg base CX0 3 fC fdC ["self"] (BY CS))(T:DT K mg CD)(TM:MdT K mg CM CS):bA P w K mg base CX0 4 f fd ["self","machine","state","happening"] (N2 CD CS bs qs):=by
 refine F.ok scDI (fun vs H Q E h=>?_) (fun dc A outer s H vs Q E hr h=>?_)
 ·obtain⟨H0,d,dx,st,m,hv,h,ds,bx,qu,dr,se,rfl,_⟩:=h;rfl
 obtain⟨H0,d,dx,st,m,hv,h,ds,bx,qu,dr,se,rfl,hd,ea,s0,hS,hE,hM,ok,wt,wa,wb,k⟩:=h;refine{_,ai (eJ (pv 0) (pv 1) rfl) (ai (eJ (pv 0) (pv 3) rfl) (ai (eJ (pv 0) (jh (pv 2) TM.clS MC.m GC hr MC.b .nil bC) rfl) (ai (eJ (pv 0) qv rfl) (ai (eJ (pv 0) (eA aj) rfl) (ai (eJ (pv 0) lD rfl) (ai (eJ (pv 0) (eA aj) rfl) (ay (eJ (pv 0) qv rfl)))))))),?_};have l1:=gZ "machine" m [];have l2:=gZ "happening" hv (cH "machine" m []);simp only[cw]at l1;refine{_,rfl,_,rfl,d,CD,dx,[],rfl,hd,T.cl,T.nM,(by show 0<1000;decide),?_};refine{_,rfl,_,rfl,d,CD,dx,_,rfl,ag,T.cl,T.nH,(by omega),?_};rw[Ca];have sd:∀(o:HO),aV H0 (upd H d o):=fun o b u e=>by
  rw[aO (av e ea)];exact s0 _ _ e
 obtain⟨dz,de,cs,cr,dL,_⟩:=id hS;refine{_,rfl,st,dz,_,rfl,sd _ _ _ dL,st_no _ _ _ _ (by decide +kernel),st,bx,qu,dr,se,rfl,hS.same (sd _),(by rw[ok.kq];exact ok.nq),?_,fun G W dxs bd qd qa N=>?_}
 ·have e:=congrArg jy ok.kq;rw[ao]at e;have:=ok.fw;rw[aA]at this;show qu.length<100;have e:qu.length=qs.length:=e;omega
 have gd:G d=some (.ins CD dx (cH "happening" hv (cH "machine" m []))):=N.sm _ _ ag;have l3:=gZ "state" (.ref W) (cH "happening" hv (cH "machine" m []));have l4:=fun wd=>gZ "written" (.ref wd) (cH "state" (.ref W) (cH "happening" hv (cH "machine" m [])));have l5:=fun od wd=>gZ "outgoing" (.ref od) (cH "written" (.ref wd) (cH "state" (.ref W) (cH "happening" hv (cH "machine" m []))));refine{_,rfl,d,CD,dx,_,rfl,gd,T.cl,T.nS,(by omega),?_};have l6:=fun od wd=>gZ "ends" (.bl false) (cH "outgoing" (.ref od) (cH "written" (.ref wd) (cH "state" (.ref W) (cH "happening" hv (cH "machine" m [])))));have l7:=fun rd od wd=>gZ "reckoned" (.ref rd) (cH "ends" (.bl false) (cH "outgoing" (.ref od) (cH "written" (.ref wd) (cH "state" (.ref W) (cH "happening" hv (cH "machine" m []))))));intro wd O;obtain⟨M,O⟩:=gu O;refine{_,rfl,d,CD,dx,_,rfl,(by rw[aO M.symm];exact ag),T.cl,T.nW,(by omega),bU _,fun od V=>?_};obtain⟨J,V⟩:=gu V;obtain⟨ec,V⟩:=gu V;obtain⟨_,V⟩:=gu V;have da:=l4 wd;have di:=l5 od wd;have cx:=l6 od wd;refine{_,rfl,d,CD,dx,_,rfl,(by rw[aO J.symm];exact ag),T.cl,T.nO,(by omega),?_};refine{_,rfl,d,CD,dx,_,rfl,ag,T.cl,T.nE,(by omega),bU _,fun rd Y=>?_};rw[Ca]at Y |-;obtain⟨t,Y⟩:=gu Y;obtain⟨dG,Y⟩:=gu Y;obtain⟨_,Y⟩:=gu Y;obtain⟨dv,Y⟩:=gu Y;obtain⟨_,Y⟩:=gu Y;have dj:=l7 rd od wd;refine{_,rfl,d,CD,dx,_,rfl,(by rw[aO t.symm];exact ag),T.cl,T.nR,(by omega),?_};intro ud Z;obtain⟨eb,Z⟩:=gu Z;obtain⟨dt,Z⟩:=gu Z;obtain⟨_,Z⟩:=gu Z;obtain⟨dV,Z⟩:=gu Z;obtain⟨_,Z⟩:=gu Z;obtain⟨dn,Z⟩:=gu Z;obtain⟨_,Z⟩:=gu Z;refine{_,rfl,d,CD,dx,_,rfl,(by rw[aO eb.symm];exact ag),T.cl,T.nQ,(by omega),?_};rw[NU];have ee:∀{a:aa},G a=none->H0 a=none:=fun {a} z=>by
  cases y:H0 a with
  |none=>rfl
  |some o=>
   rw[N.sm _ _ (sd _ _ _ y)]at z
   cases z
 have U:∀a∈W::bd::qd::qa.map (·.2),H0 a=none/\a≠d:=fun a ha=>by
  have z:=N.fr a ha;have n:a≠d:=fun y=>by
   rw[y,ag]at z
   cases z
  rw[aO n]at z;refine{?_,n}
  cases y:H0 a with
  |none=>rfl
  |some o=>
   rw[s0 _ _ y]at z
   cases z
 have ed:∀a∈W::bd::qd::qa.map (·.2),∃o,G a=some o:=fun a ha=>by
  simp only[ar]at ha
  rcases ha with rfl|rfl|rfl|ha
  ·exact{_,N.hst}
  ·exact{_,N.hb}
  ·exact{_,N.hq}
  ·obtain⟨xs,e⟩:=N.hl.there ha;exact{_,e}
 have i1:∀{b:aa} {xs:List aa},b∈b::xs:=aC;have i2:∀{a b:aa} {xs:List aa},b∈xs->b∈a::xs:=fun z=>ah _ z;refine k _ ⟨d,dx,W,dxs,bd,qd,wd,od,rd,ud,m,hv,qa⟩ rfl rfl {fun b o e=>AH O V Y Z (N.sm _ _ (sd _ _ _ e)) (av e ea),ag,AH O V Y Z N.hst (U _ i1).2,AH O V Y Z N.hb (U _ (i2 i1)).2,AH O V Y Z N.hq (U _ (i2 (i2 i1))).2,?_,?_,{[],?_,.nil},{[],?_,.nil},?_,hE,hM,?_,?_,ok,wt,wa,wb}
 ·exact gE.keep (L:={0,0,0,0,0,0,0,0,0,0,.non,.non,qa}) (fun a u e m=>AH O V Y Z e (U a (i2 (i2 (i2 m)))).2) (fun _ h=>h) N.hl
 ·show upd _ d _ wd=some (.dK []);rw[aO M,aO dn.symm,aO M,aO dv.symm,aO M,aO ec.symm,aO M,ag]
 ·show upd _ d _ od=some (.lst []);rw[aO J,aO dV.symm,aO J,aO dG.symm,aO J,ag]
 ·show upd _ d _ rd=some (.lst []);rw[aO t,aO dt.symm,aO t,ag]
 ·show upd _ d _ ud=some (.dK []);rw[aO eb,ag]
 ·have nd:=N.nd;have hn:∀{a:aa} {xs:List aa},a∉xs->xs.Nodup->(a::xs).Nodup:=fun p q=>cG.mpr ⟨p,q⟩;obtain⟨n1,nd⟩:=cG.mp nd;obtain⟨n2,nd⟩:=cG.mp nd;obtain⟨n3,nd⟩:=cG.mp nd;simp only[ar,not_or]at n1 n2 n3;have D:∀a∈W::bd::qd::qa.map (·.2),a≠wd:=fun a ha z=>by
   obtain⟨o,y⟩:=ed a ha;rw[z,O]at y
   cases y
  have g:∀a∈W::bd::qd::qa.map (·.2),a≠od:=fun a ha z=>by
   obtain⟨o,y⟩:=ed a ha;rw[z,V]at y
   cases y
  have I:∀a∈W::bd::qd::qa.map (·.2),a≠rd:=fun a ha z=>by
   obtain⟨o,y⟩:=ed a ha;rw[z,Y]at y
   cases y
  have ef:∀a∈W::bd::qd::qa.map (·.2),a≠ud:=fun a ha z=>by
   obtain⟨o,y⟩:=ed a ha;rw[z,Z]at y
   cases y
  show (d::W::bd::qd::wd::od::rd::ud::qa.map (·.2)).Nodup;refine hn ?_ (hn ?_ (hn ?_ (hn ?_ (hn ?_ (hn ?_ (hn ?_ (hn ?_ nd)))))))
  ·simp only[ar,not_or];exact{fun z=>(U _ i1).2 z.symm,fun z=>(U _ (i2 i1)).2 z.symm,fun z=>(U _ (i2 (i2 i1))).2 z.symm,M.symm,J.symm,t.symm,eb.symm,fun z=>(U d (i2 (i2 (i2 z)))).2 rfl}
  ·simp only[ar,not_or];exact{n1.1,n1.2.1,D _ i1,g _ i1,I _ i1,ef _ i1,n1.2.2}
  ·simp only[ar,not_or];exact{n2.1,D _ (i2 i1),g _ (i2 i1),I _ (i2 i1),ef _ (i2 i1),n2.2}
  ·simp only[ar,not_or];exact{D _ (i2 (i2 i1)),g _ (i2 (i2 i1)),I _ (i2 (i2 i1)),ef _ (i2 (i2 i1)),n3}
  ·simp only[ar,not_or];exact{ec.symm,dv.symm,dn.symm,fun z=>D wd (i2 (i2 (i2 z))) rfl}
  ·simp only[ar,not_or];exact{dG.symm,dV.symm,fun z=>g od (i2 (i2 (i2 z))) rfl}
  ·simp only[ar,not_or];exact{dt.symm,fun z=>I rd (i2 (i2 (i2 z))) rfl}
  ·exact fun z=>ef ud (i2 (i2 (i2 z))) rfl
 ·intro a ha;unfold Lay.all at ha;simp only[ar]at ha
  rcases ha with rfl|rfl|rfl|rfl|rfl|rfl|rfl|rfl|ha
  ·exact ea
  ·exact (U _ i1).1
  ·exact (U _ (i2 i1)).1
  ·exact (U _ (i2 (i2 i1))).1
  ·exact ee O
  ·exact ee V
  ·exact ee Y
  ·exact ee Z
  ·exact (U a (i2 (i2 (i2 ha)))).1
inductive LN(bs qs:List Str)(vs:List V)(H:Hp)(Q:VK)(_e:XK):Prop where
 |mk(H0:Hp)(t hl:aa)(x0 x1 x2 x3:V)(hv:List V)(hs:List (Str×Ds))(sg:Str)(_:vs=[.ref t,.str sg])(_:aV H0 H)(_:H0 t=some (.tup [x0,x1,x2,x3,.ref hl]))(_:H0 hl=some (.lst hv))(_:aP (EN bs qs H0) hv hs)(_:(∀u,mU H0 (fv bs qs H0 (jG hs sg)) u->Q u H))(_:∀l,H l=none->jG hs sg=.nil->Q (.ref l) (upd H l (.lst []))):LN bs qs vs H Q _e
def N3(bs qs:List Str):Sp:=fun vs H Q Z=>LN bs qs vs H Q Z
theorem scBy:bM ["machine","sign","heard"] ["machine","sign"] (aM iu):={}
theorem oB{Z Y:Type}{R:Z->Y->Prop}:∀{xs:List Z} {ys:List Y} {i:Nat} {x:Z},aP R xs ys->xs[i]?=some x->∃y,ys[i]?=some y/\R x y
 |_,_,i,x,.nil,h=>by simp at h
 |_,_,0,x,.cons a b,h=>by
  simp at h;subst h;exact{_,rfl,a}
 |_,_,i+1,x,.cons a b,h=>by
  obtain⟨y,h1,h2⟩:=oB (i:=i) (x:=x) b (by simpa using h);exact{y,by simpa using h1,h2}
theorem ok_by(D:Df K mg "deeds_by_sign" iu ["machine","sign"] f fd):bA P w K mg base CX0 1 f fd ["machine","sign"] (N3 bs qs):=by
 refine D.F.ok scBy (fun vs H Q E h=>?_) (fun U A outer s H vs Q E hr h=>?_)
 ·obtain⟨H0,t,hl,I,x1,V,M,hv,hs,sg,rfl,_⟩:=h;rfl
 obtain⟨H0,t,hl,I,x1,V,M,hv,hs,sg,rfl,sm,ht,hh,W,k1,k2⟩:=h;have ht:=sm _ _ ht;have hh:=sm _ _ hh;refine⟨_,ai (jo cO rfl (iU (bP cF (pv 0) aw (fun _ _=>rfl))) (dO (i:=2) scBy.nd rfl (Or.inl rfl)) (ay (cK (bO eN (bP cF (pv 2) aw (fun _ _=>rfl)) (pv 1) (bX _)) (ay (bN (bP cF (pv 2) aw (fun _ _=>rfl)))) bS)))
  (ay (bN (eA aj))),?_⟩
 refine{_,rfl,t,_,_,_,rfl,rfl,SqT.of ht,rfl,hl,rfl,{_,SqL.of hh},j7 (K:=K) (a:=hl) (xs:=hv) (fun i σ G=>G=H/\(∃u,σ=[some (.ref t),some (.str sg),u])/\jG hs sg=jG (hs.drop i) sg) {rfl,{_,rfl},by rw[yf]} ?_ ?_ ?_}
 ·rintro i σ G _ ⟨rfl,_⟩;exact SqL.of hh
 ·rintro i x σ G hi ⟨rfl,⟨u,rfl⟩,e⟩;obtain⟨p,hp,t',O,rfl,Z,Y⟩:=oB W hi;have Z:=sm _ _ Z;have lt:i<hs.length:=(aG.mp hp).1;have hx:hs[i]=p:=(aG.mp hp).2;rw[zq lt,hx]at e;obtain⟨pn,pd⟩:=p;refine{_,rfl,t',_,_,_,rfl,rfl,SqT.of Z,rfl,_,rfl,rfl,_,rfl,?_}
  by_cases c:pn=sg
  ·subst c;refine oy (EI _) (iH ?_);refine{_,rfl,t',_,_,_,rfl,rfl,SqT.of Z,rfl,k1 O ?_};rw[e];unfold jG;rw[bQ];exact Y
  ·refine oy (vh c) (gb ?_);refine{rfl,{_,rfl},?_};rw[e];unfold jG;rw[cE,beq_eq_false_iff_ne.mpr (fun z=>c z.symm)]
 ·rintro σ G ⟨rfl,⟨u,rfl⟩,e⟩;have J:=aZ W;rw[J,IX]at e;exact{bU _,fun l Y=>k2 l Y e}
end
structure wQ(bs qs:List Str)(ds:List Int)(hs:List (Str×Ds))(H:Hp)(m:V):Prop where
 ex:∃(t bl ql dl hl:aa) (nm:V) (vb hv:List V),m=.ref t/\H t=some (.tup [nm,.ref bl,.ref ql,.ref dl,.ref hl])/\H bl=some (.lst vb)/\aP (fun v (x:Str)=>∃a n,v=.ref a/\H a=some (.tup [.str x,n])) vb bs/\H ql=some (.lst (qs.map V.str))/\H dl=some (.lst (ds.map V.int))/\H hl=some (.lst hv)/\aP (EN bs qs H) hv hs
theorem wQ.same{bs qs:List Str}{ds:List Int}{hs:List (Str×Ds)}{H H':Hp}(s:aV H H'){m:V}(h:wQ bs qs ds hs H m):wQ bs qs ds hs H' m:=by
 obtain⟨t,bl,ql,dl,hl,nm,U,hv,e,h1,h2,M,Z,O,W,Y⟩:=h;exact⟨t,bl,ql,dl,hl,nm,U,hv,e,s _ _ h1,s _ _ h2,Paired.mono (fun v x z=>by
  obtain⟨a,n,e,y⟩:=z;exact{a,n,e,s _ _ y}) M,s _ _ Z,s _ _ O,s _ _ W,Paired.mono (fun _ _ z=>z.same s) Y⟩
def wrB(bs:List Str)(w:Wk):List (Str×Int):=(bs.filter fun x=>decide (x∈w.wr)).map fun x=>(x,wM w.bx x)
def wrQ(qs:List Str)(w:Wk):List (Str×List Int):=(qs.filter fun x=>decide (x∈w.wr)).map fun x=>(x,jN w.qu x)
def zt(G:Hp)(v:V)(p:Str×Int):Prop:=∃t,v=.ref t/\G t=some (.tup [.str p.1,.int p.2])
def AJ(G:Hp)(v:V)(p:Str×aa):Prop:=∃t,v=.ref t/\G t=some (.tup [.str p.1,.ref p.2])
theorem zt.keep{G G':Hp}(k:∀a xs,G a=some (.tup xs)->G' a=some (.tup xs)){v:V}{p:Str×Int}(h:zt G v p):zt G' v p:=by
 obtain⟨t,e,h1⟩:=h;exact{t,e,k _ _ h1}
theorem AJ.keep{G G':Hp}(k:∀a xs,G a=some (.tup xs)->G' a=some (.tup xs)){v:V}{p:Str×aa}(h:AJ G v p):AJ G' v p:=by
 obtain⟨t,e,h1⟩:=h;exact{t,e,k _ _ h1}
structure WrIn(bs qs:List Str)(w:Wk)(H G:Hp)(wl:aa)(ws1 ws2:List V)(qa:List (Str×aa)):Prop where
 hl:G wl=some (.lst (ws1++ws2))
 b:aP (zt G) ws1 (wrB bs w)
 q:aP (AJ G) ws2 qa
 l:gE G qa (wrQ qs w)
 nd:(wl::qa.map (·.2)).Nodup
 fr:∀a∈wl::qa.map (·.2),H a=none
theorem uT{p:Str->Bool}{xs:List Str}{i:Nat}{x:Str}(h:xs[i]?=some x):(xs.take (i+1)).filter p=(xs.take i).filter p++if p x=true then [x] else []:=by
 rw[eR,h,mY];show _++[x].filter p=_
 by_cases c:p x=true
 ·rw[if_pos c,ie c];rfl
 ·rw[if_neg c,ig c];rfl
theorem lY{H G:Hp}{a:aa}(s:aV H G)(n:H a=none)(o:HO):aV H (upd G a o):=fun b u e=>by
 rw[aO (av e n)];exact s _ _ e
theorem none_of{H G:Hp}(s:aV H G){a:aa}(n:G a=none):H a=none:=by
 cases z:H a with
 |none=>rfl
 |some o=>
  rw[s _ _ z]at n
  cases n
section
variable{P:aN}{w:bL}{K:ae}{mg:Str->Option af}{base:cz}{f CD CS CM:aa}{fd:bR}{bs qs:List Str}
inductive LO(CD CS:aa)(bs qs:List Str)(vs:List V)(H:Hp)(Q:VK)(_e:XK):Prop where
 |mk(H0:Hp)(L:Lay)(h:Ev)(ds:List Int)(w:Wk)(hs:List (Str×Ds))(_:vs=[.ref L.d])(_:Dg CD CS bs qs H0 H L h ds w)(_:wQ bs qs ds hs H0 L.m)(_:∀(G:Hp) (wl:aa) (ws1 ws2:List V) (qa:List (Str×aa)),aV H G->WrIn bs qs w H G wl ws1 ws2 qa->Q (.ref wl) G):LO CD CS bs qs vs H Q _e
def spWr(CD CS:aa)(bs qs:List Str):Sp:=fun vs H Q Z=>LO CD CS bs qs vs H Q Z
theorem Ko:bM ["doing","writes","box","name"] ["doing"] (aM mQ):={}
theorem EO(D:Df K mg "writes_of" mQ ["doing"] f fd)(T:DT K mg CD)(TM:MdT K mg CM CS)(B:Bl mg):bA P w K mg base CX0 1 f fd ["doing"] (spWr CD CS bs qs):=by
 refine D.F.ok Ko (fun vs H Q E h=>?_) (fun bH A outer s H vs Q E hr h=>?_)
 ·obtain⟨H0,L,h,ds,w,hs,rfl,_⟩:=h;rfl
 obtain⟨H0,L,h,ds,w,hs,rfl,g,⟨t,bl,ql,dl,hl,nm,vb,hv,em,ht,ci,pb,ca,hdl,bI,_⟩,k⟩:=h;have hu:=lN hr;refine⟨_,ai (bh (i:=1) Ko.nd rfl (Or.inl rfl) (eA aj))
  (ai (jo cO rfl (iU (bP cF (cW (pv 0) rfl) aw (fun _ _=>rfl))) (dO (i:=2) Ko.nd rfl (Or.inl rfl)) (ay (cK (oK (FV hu (bP cF (pv 2) aw (fun _ _=>rfl)) (cW (pv 0) rfl)))
   (ay (d9 (nX bV cY cZ iC (pv 1) (au (eD (au (bP cF (pv 2) aw (fun _ _=>rfl)) (au (q8 hu (cW (cW (pv 0) rfl) rfl) (bP cF (pv 2) aw (fun _ _=>rfl)) (fun _ _=>rfl)) aj))) aj)))) bS)))
  (ai (jo cO rfl (iU (bP cF (cW (pv 0) rfl) aw (fun _ _=>rfl))) (dO (i:=3) Ko.nd rfl (Or.inl rfl)) (ay (cK (oK (FV hu (pv 3) (cW (pv 0) rfl)))
   (ay (d9 (nX bV cY cZ iC (pv 1) (au (eD (au (pv 3) (au (hJ oR (by rfl) B.list boot_list (au (q8 hu (cW (cW (pv 0) rfl) rfl) (pv 3) (fun _ _=>rfl)) aj)) aj))) aj)))) bS)))
  (ay (bN (pv 1))))),?_⟩
 have big:=dW;have fw:=g.ok.fw;rw[aA]at fw;refine{bU _,fun wl cs=>?_};have s0:=aF cs (.lst []);have ce:∀{G:Hp} (g:Dg CD CS bs qs H0 G L h ds w) (x:Str),pU G L.wd (.str x) (if x∈w.wr then some (.bl true) else none):=fun {G} g x=>by
  have z:=pU.k (k:=Sum.inr x) g.hw;rw[CQ]at z;exact z
 refine{_,rfl,L.d,CD,L.dx,_,_,rfl,s0 _ _ g.hd,T.cl,T.nM,NT _ _ _ _ _ _ _ _,t,_,_,_,em,rfl,SqT.of (s0 _ _ (g.sm _ _ ht)),rfl,bl,rfl,{_,SqL.of (s0 _ _ (g.sm _ _ ci))},?_};refine j7 (K:=K) (a:=bl) (xs:=vb) (fun i σ G=>∃(u:Option V) (ws:List V),σ=[some (.ref L.d),some (.ref wl),u,none]/\aV H G/\G wl=some (.lst ws)/\aP (zt G) ws (((bs.take i).filter fun x=>decide (x∈w.wr)).map fun x=>(x,wM w.bx x))) {none,[],rfl,s0,ag,by rw[jQ];exact .nil} ?_ ?_ ?_
 ·rintro i σ G _ ⟨_,_,rfl,sm,_⟩;exact SqL.of (sm _ _ (g.sm _ _ ci))
 ·rintro i x σ G hi ⟨u,ws,rfl,sm,W,U⟩;have g1:=g.same sm;obtain⟨y,hy,a,n,rfl,ha⟩:=oB pb hi;have ha:=g1.sm _ _ ha;have my:y∈bs:=cq hy;have J:=uT (p:=fun x=>decide (x∈w.wr)) hy;refine{_,rfl,a,_,_,_,rfl,rfl,SqT.of ha,rfl,_,rfl,L.d,CD,L.dx,_,_,rfl,g1.hd,T.cl,T.nW,Hr _ _ _ _ _ _ _ _,L.wd,_,rfl,ce g1 y,_,rfl,?_}
  by_cases c:y∈w.wr
  ·rw[if_pos c];rw[if_pos (decide_eq_true c)]at J;refine iH ?_;refine{_,rfl,.inl {rfl,_,SqL.of W},_,rfl,a,_,_,_,rfl,rfl,SqT.of ha,rfl,_,rfl,L.d,CD,L.dx,_,_,rfl,g1.hd,T.cl,T.nS,xR _ _ _ _ _ _ _ _,L.st,CS,L.dxs,_,_,rfl,g1.hst,TM.clS,TM.nB,J6 _ _ _ _,_,rfl,a,_,_,_,rfl,rfl,SqT.of ha,rfl,L.bd,_,rfl,(by have z:=pU.k (k:=Sum.inr y) g1.hb;rw[Hu (by rw[g1.ok.kb];exact my)]at z;exact z),lt2,fun O cr=>?_};have Z:=aF cr (.tup [.str y,.int (wM w.bx y)]);have lw:=aZ U;have lf:(((bs.take i).filter fun x=>decide (x∈w.wr)).map fun x=>(x,wM w.bx x)).length<=bs.length:=by
    rw[ao];refine dA (kC _ _) ?_;rw[c9];omega
   refine{wl,ws,_,rfl,rfl,Z _ _ W,(by omega),_,_,rfl,lY (sm.trans Z) cs _,ag,?_};rw[J,bT];have kp:∀b xs,upd G O (.tup [.str y,.int (wM w.bx y)]) b=some (.tup xs)->upd (upd G O (.tup [.str y,.int (wM w.bx y)])) wl (.lst (ws++[.ref O])) b=some (.tup xs):=fun b xs z=>aS z (pG z (Z _ _ W) (by intro q;cases q));exact eP (Paired.mono (fun _ _ z=>(z.keep fun b xs e=>Z _ _ e).keep kp) U) {O,rfl,kp _ _ ag}
  ·rw[if_neg c];rw[if_neg (by rw[decide_eq_false c];decide),cv]at J;refine gb {_,ws,rfl,sm,W,?_};rw[J];exact U
 rintro σ G ⟨u,cx,rfl,sm,W,U⟩;have g1:=g.same sm;have bW:vb.length=bs.length:=aZ pb;rw[bW,dZ]at U;refine{_,rfl,L.d,CD,L.dx,_,_,rfl,g1.hd,T.cl,T.nM,NT _ _ _ _ _ _ _ _,t,_,_,_,em,rfl,SqT.of (g1.sm _ _ ht),rfl,ql,rfl,{_,SqL.of (g1.sm _ _ ca)},?_};refine j7 (K:=K) (a:=ql) (xs:=qs.map V.str) (fun i σ G=>∃(u v:Option V) (Y:List V) (qa:List (Str×aa)),σ=[some (.ref L.d),some (.ref wl),u,v]/\aV H G/\G wl=some (.lst (cx++Y))/\aP (zt G) cx (wrB bs w)/\aP (AJ G) Y qa /\
  gE G qa (((qs.take i).filter fun x=>decide (x∈w.wr)).map fun x=>(x,jN w.qu x))/\(wl::qa.map (·.2)).Nodup/\∀a∈wl::qa.map (·.2),H a=none) {_,_,[],[],rfl,sm,by rw[cv];exact W,U,.nil,by rw[jQ];exact .nil,by simp,fun a ha=>by rw[aE.mp ha];exact cs} ?_ ?_ ?_
 ·rintro i σ G _ ⟨_,_,_,_,rfl,sm,_⟩;exact SqL.of (sm _ _ (g.sm _ _ ca))
 ·rintro i x σ G hi ⟨u,v,Y,qa,rfl,sm,W,U,pq,pl,nd,fr⟩;have g1:=g.same sm;obtain⟨y,hy,rfl⟩:∃y,qs[i]?=some y/\x=.str y:=by
   rw[cC]at hi
   cases z:qs[i]? with
   |none=>
    rw[z]at hi
    cases hi
   |some y=>
    rw[z]at hi
    cases hi;exact⟨y,rfl,rfl⟩
  have my:y∈qs:=cq hy;have J:=uT (p:=fun x=>decide (x∈w.wr)) hy;refine{_,rfl,_,rfl,L.d,CD,L.dx,_,_,rfl,g1.hd,T.cl,T.nW,Hr _ _ _ _ _ _ _ _,L.wd,_,rfl,ce g1 y,_,rfl,?_}
  by_cases c:y∈w.wr
  ·rw[if_pos c];rw[if_pos (decide_eq_true c)]at J;refine iH ?_;obtain⟨l,h1,h2,h3⟩:=g1.getL my;refine{_,rfl,.inl {rfl,_,SqL.of W},_,rfl,_,rfl,L.d,CD,L.dx,_,_,rfl,g1.hd,T.cl,T.nS,xR _ _ _ _ _ _ _ _,L.st,CS,L.dxs,_,_,rfl,g1.hst,TM.clS,TM.nQ,Kc _ _ _ _,_,rfl,L.qd,_,rfl,h3,l,_,rfl,.inl (SqL.of h2),fun M I=>?_};have sn:=aF I (.lst ((jN w.qu y).map V.int));refine{lt2,fun O cr=>?_};have Z:=aF cr (.tup [.str y,.ref M]);have lw:=aZ pq;have lb:=aZ U;have lq:=aZ pl;have lf:(((qs.take i).filter fun x=>decide (x∈w.wr)).map fun x=>(x,jN w.qu x)).length<=qs.length:=by
    rw[ao];refine dA (kC _ _) ?_;rw[c9];omega
   have bG:(wrB bs w).length<=bs.length:=by
    unfold wrB;rw[ao];exact kC _ _
   have cp:=Z _ _ (sn _ _ W);have cd:M≠wl:=(av W I).symm;have kp:∀b xs,upd (upd G M (.lst ((jN w.qu y).map V.int))) O (.tup [.str y,.ref M]) b=some (.tup xs)->upd (upd (upd G M (.lst ((jN w.qu y).map V.int))) O (.tup [.str y,.ref M])) wl (.lst (cx++Y++[.ref O])) b=some (.tup xs):=fun b xs z=>aS z (pG z cp (by intro q;cases q));refine{wl,_,_,rfl,rfl,cp,(by rw[aA];omega),_,_,Y++[.ref O],qa++[(y,M)],rfl,lY ((sm.trans sn).trans Z) cs _,(by rw[<- jP];exact ag),?_,?_,?_,?_,?_}
   ·exact Paired.mono (fun _ _ z=>(z.keep fun b xs e=>Z _ _ (sn _ _ e)).keep kp) U
   ·exact eP (Paired.mono (fun _ _ z=>(z.keep fun b xs e=>Z _ _ (sn _ _ e)).keep kp) pq) {O,rfl,kp _ _ ag}
   ·rw[J,bT];refine eP (gE.keep (L:={0,0,0,0,0,0,0,0,0,0,.non,.non,qa}) (fun a u e m=>aS (Z _ _ (sn _ _ e)) fun z=>?_) (fun _ h=>h) pl) {rfl,aS (Z _ _ ag) cd};rw[z]at m;exact (cG.mp nd).1 m
   ·rw[bT,<- IY];refine gX.mpr {nd,by simp,fun a ha b hb=>?_};rw[aE.mp hb];intro z
    rcases ar.mp ha with q|q
    ·exact cd ((show a=M from z).symm.trans q)
    ·obtain⟨xs,q⟩:=pl.there q;rw[show a=M from z,I]at q
     cases q
   ·intro a ha;rw[bT,<- IY]at ha
    rcases bY.mp ha with z|z
    ·exact fr a z
    ·rw[aE.mp z];exact none_of sm I
  ·rw[if_neg c];rw[if_neg (by rw[decide_eq_false c];decide),cv]at J;refine gb {_,_,Y,qa,rfl,sm,W,U,pq,?_,nd,fr};rw[J];exact pl
 rintro σ G ⟨u,v,Y,qa,rfl,sm,W,U,pq,pl,nd,fr⟩;rw[ao,dZ]at pl;exact{_,rfl,k G wl cx Y qa sm ⟨W,U,pq,pl,nd,fr⟩}
end
structure HH(CD CS:aa)(bs qs:List Str)(H G:Hp)(L:Lay)(h:Ev)(ds:List Int)(w:Wk)(t rc wl:aa)(ws1 ws2:List V)(qa:List (Str×aa)):Prop where
 dg:∃H0,aV H H0/\Dg CD CS bs qs H0 G L h ds w
 ht:G t=some (.tup [.ref L.st,.ref rc,.bl w.en])
 hrc:∃k,G rc=some (.tup [.ref k,.int h.to,.str h.sg,.int h.a,.int h.b,.ref wl,.ref L.od])/\H k=some (.tup [.int h.t,.int h.r,.int h.fr,.int h.c])
 wr:WrIn bs qs w H G wl ws1 ws2 qa
 nd:(L.all++wl::qa.map (·.2)).Nodup
theorem HH.sm{CD CS:aa}{bs qs:List Str}{H G:Hp}{L:Lay}{h:Ev}{ds:List Int}{w:Wk}{t W wl:aa}{Y Z:List V}{qa:List (Str×aa)}(n:HH CD CS bs qs H G L h ds w t W wl Y Z qa):aV H G:=by
 obtain⟨H0,s,g⟩:=n.dg;exact s.trans g.sm
def w0(bx:List (Str×Int))(qu:List (Str×List Int))(dr:Nat)(se:Int):Wk:={bx,qu,dr,se,[],[],false,[],[]}
section
variable{P:aN}{w:bL}{K:ae}{mg:Str->Option af}{base:cz}{f fI fS fB fW fO CD CS CM:aa}{fd fdI fdS fdB fdW fdO:bR}{bs qs:List Str}{cf:Flt->aa}
inductive Da(cf:Flt->aa)(CM CD CS:aa)(bs qs:List Str)(n:Nat)(vs:List V)(H:Hp)(Q:VK)(E:XK):Prop where
 |mk(m dxm ml st:aa)(fs:List (Str×V))(ms:List V)(hv mv:V)(h:Ev)(ds:List Int)(hs:List (Str×Ds))(bx:List (Str×Int))(qu:List (Str×List Int))(dr:Nat)(se:Int)(_:vs=[.ref m,.ref st,hv])(_:H m=some (.ins CM dxm fs))(_:fs.lookup ("machines":Str)=some (.ref ml))(_:H ml=some (.lst ms))(_:hZ H hv h)(_:atI ms h.to=some mv)(_:wQ bs qs ds hs H mv)(_:jO CS H st bx qu dr se)(_:qK bs qs (w0 bx qu dr se))(_:Wo h.t)(_:Wo h.a)(_:Wo h.b)(_:(jG hs h.sg).deep<n)(_:(jG hs h.sg).size<100000) (_:match doS h ds (jG hs h.sg) (w0 bx qu dr se) with
 |.ok w'=>∀(G:Hp) (L:Lay) (t rc wl:aa) (ws1 ws2:List V) (qa:List (Str×aa)),HH CD CS bs qs H G L h ds w' t rc wl ws1 ws2 qa->Q (.ref t) G
 |.error e=>∀G,aV H G->E (.ref (cf e)) none G):Da cf CM CD CS bs qs n vs H Q E
def HI(cf:Flt->aa)(CM CD CS:aa)(bs qs:List Str)(n:Nat):Sp:=fun vs H Q E=>Da cf CM CD CS bs qs n vs H Q E
theorem by_go{CD CS:aa}{bs qs:List Str}{H G:Hp}{L:Lay}{h:Ev}{ds:List Int}{w:Wk}{M hl:aa}{x0 x1 D x3:V}{Y:List V}{hs:List (Str×Ds)}{sg:Str}{J:VK}{E:XK}(g:Dg CD CS bs qs H G L h ds w)(U:H M=some (.tup [x0,x1,D,x3,.ref hl]))(W:H hl=some (.lst Y))(ph:aP (EN bs qs H) Y hs)
  (k:∀(H0 O:Hp) (u:V),aV H H0->aV G O->Dg CD CS bs qs H0 O L h ds w->mU H0 (fv bs qs H0 (jG hs sg)) u->J u O):N3 bs qs [.ref M,.str sg] G J E:=by
 refine{H,M,hl,_,_,_,_,Y,hs,sg,rfl,g.sm,U,W,ph,fun u hu=>k H G u (aV.refl _) (aV.refl _) g hu,fun l Z e=>?_};have sl:=aF Z (.lst []);have t:=none_of g.sm Z;have I:=aF t (.lst []);have s1:aV (upd H l (.lst [])) (upd G l (.lst [])):=fun b o z=>by
  by_cases c:b=l
  ·rw[c]at z |-;rw[ag]at z |-;exact z
  ·rw[aO c]at z |-;exact g.sm _ _ z
 refine k _ _ _ I sl (g.base sl I s1 fun a ha=>?_) {l,[],rfl,ag,by show 0<1000;decide,?_}
 ·obtain⟨o,z⟩:=g.there a ha;rw[aO (av z Z)];exact g.fr a ha
 ·rw[e];simp only[fv]
inductive HJ(cf:Flt->aa)(CM CD CS:aa)(bs qs:List Str)(n:Nat)(vs:List V)(H:Hp)(Q:VK)(E:XK):Prop where
 |mk(m dxm ml st:aa)(fs:List (Str×V))(ms:List V)(hv mv:V)(h:Ev)(ds:List Int)(hs:List (Str×Ds))(bx:List (Str×Int))(qu:List (Str×List Int))(dr:Nat)(se:Int)(_:vs=[.ref m,.ref st,hv])(_:H m=some (.ins CM dxm fs))(_:fs.lookup ("machines":Str)=some (.ref ml))(_:H ml=some (.lst ms))(_:hZ H hv h)(_:atI ms h.to=some mv)(_:wQ bs qs ds hs H mv)(_:jO CS H st bx qu dr se)(_:qK bs qs (w0 bx qu dr se))(_:Wo h.t)(_:Wo h.a)(_:Wo h.b)(_:(jG hs h.sg).deep<n)(_:(jG hs h.sg).size<100000) (_:match doS h ds (jG hs h.sg) (w0 bx qu dr se) with
 |.ok w'=>∀(H0 G:Hp) (L:Lay),aV H H0->Dg CD CS bs qs H0 G L h ds w'->L.m=mv->Q (.ref L.d) G
 |.error e=>∀G,aV H G->E (.ref (cf e)) none G):HJ cf CM CD CS bs qs n vs H Q E
def LP(cf:Flt->aa)(CM CD CS:aa)(bs qs:List Str)(n:Nat):Sp:=fun vs H Q E=>HJ cf CM CD CS bs qs n vs H Q E
theorem N4:bM ["model","state","happening","machine","doing"] ["model","state","happening"] (aM oZ):={}
theorem N5{n:Nat}(D:Df K mg "doing_of" oZ ["model","state","happening"] f fd)(MD:Mk K CD fI)(bI:Binds K fdI ["self","machine","state","happening"] [])(GI:bA P w K mg base CX0 4 fI fdI ["self","machine","state","happening"] (N2 CD CS bs qs))
  (DS:Df K mg "do_deeds" iP ["doing","deeds"] fS fdS) (GS:bA P w K mg base (CXo P w) (20+3*n) fS fdS ["doing","deeds"] (wN cf CD CS bs qs n)) (M:Df K mg "deeds_by_sign" iu ["machine","sign"] fB fdB) (T:DT K mg CD) (TM:MdT K mg CM CS) :
  bA P w K mg base (CXo P w) (20+3*n+1) f fd ["model","state","happening"] (LP cf CM CD CS bs qs n):=by
 have GB:bA P w K mg base CX0 1 fB fdB ["machine","sign"] (N3 bs qs):=ok_by M;refine D.F.okX N4 (fun vs H Q E h=>?_) (fun dV A outer s H vs Q E hr h=>?_)
 ·obtain⟨m,O,ml,st,fs,ms,hv,mv,h,ds,hs,bx,qu,dr,se,rfl,_⟩:=h;rfl
 obtain⟨m,O,ml,st,fs,ms,hv,mv,h,ds,hs,bx,qu,dr,se,rfl,hm,ef,ec,hE,ed,hM,hS,ok,wt,wa,wb,dn,sz,p⟩:=h;have r1:cQ 1 _:=hr.mono (by omega);have r5:cQ 5 _:=hr.mono (by omega);refine⟨_,ai (bh (i:=3) N4.nd rfl (Or.inl rfl) (bP cJ (cW (pv 0) rfl) (bP cF (pv 2) aw (fun _ _=>rfl)) (fun _ _=>rfl)))
  (ai (bh (i:=4) N4.nd rfl (Or.inl rfl) (jW MD GI r5 (by rfl) T.mD bI .nil bC (au (pv 3) (au (pv 1) (au (pv 2) aj)))))
  (ai (d9 (aL GS hr (by rfl) DS.m DS.F.kp DS.b .nil (dP.passes fun _ _ _ z=>z) (au (pv 4) (au (aL GB r1 (by rfl) M.m M.F.kp M.b .nil bC (au (pv 3) (au (bP cF (pv 2) aw (fun _ _=>rfl)) aj))) aj))))
  (ay (bN (pv 4))))),?_⟩
 obtain⟨th,kh,rfl,V,dz⟩:=id hE;obtain⟨tm,bl,ql,dl,hl,nm,vb,dG,rfl,W,ea,pb,dL,hdl,J,ph⟩:=hM.ex;refine{_,rfl,m,CM,O,_,_,rfl,hm,TM.clM,TM.nM,ef,_,rfl,th,_,_,_,rfl,rfl,SqT.of V,rfl,ml,_,_,_,rfl,rfl,SqL.of ec,ed,?_};refine{_,rfl,_,rfl,_,rfl,?_};intro d dx U I eb;have sA:aV H (upd (upd H dx (.own d)) d (.ins CD dx [])):=fun b o e=>by
  rw[aO (av e U),aO (av e I)];exact e
 refine{H,d,dx,st,.ref tm,.ref th,h,ds,bx,qu,dr,se,rfl,ag,U,sA,hS,hE,{tm,_,_,_,_,dl,rfl,W,hdl},ok,wt,wa,wb,fun G L eL em g=>{rfl,?_}};have ee:=g.sm _ _ V;refine{_,rfl,_,rfl,_,rfl,th,_,_,_,rfl,rfl,SqT.of ee,rfl,?_};subst eL;refine by_go (E:=E0) g W J ph fun H0 G1 u s0 s1 g1 hu=>?_;refine{H0,L,h,ds,w0 bx qu dr se,u,jG hs h.sg,rfl,g1,hu,dn,(by show 0+_<_;omega),?_};have t:∀{dg:Wk->Hp->Prop} {r:Except Flt Wk} {Q1:VK} {k:Nat},r=doS h ds (jG hs h.sg) (w0 bx qu dr se)->(∀Y Z,r=.ok Y->dg Y Z->Q1 .non Z)->uk cf dg H0 k r Q1 E:=fun {dg r Q1 k} e q=>by
  cases r with
  |ok Y=>exact fun Z g2 _=>q Y Z rfl g2
  |error er=>
   rw[<- e]at p;exact fun Z s2=>p Z (s0.trans s2)
 refine t rfl fun Y Z ew g2=>?_;rw[ew]at p;exact{_,rfl,p H0 Z L s0 g2 em}
theorem N6:bM ["model","state","happening","doing","record"] ["model","state","happening"] (aM zi):={}
theorem tf{n:Nat}(D:Df K mg "done" zi ["model","state","happening"] f fd)(U:Df K mg "doing_of" oZ ["model","state","happening"] fO fdO)(MD:Mk K CD fI)(bI:Binds K fdI ["self","machine","state","happening"] [])(GI:bA P w K mg base CX0 4 fI fdI ["self","machine","state","happening"] (N2 CD CS bs qs))
  (DS:Df K mg "do_deeds" iP ["doing","deeds"] fS fdS) (GS:bA P w K mg base (CXo P w) (20+3*n) fS fdS ["doing","deeds"] (wN cf CD CS bs qs n)) (DB:Df K mg "deeds_by_sign" iu ["machine","sign"] fB fdB) (M:Df K mg "writes_of" mQ ["doing"] fW fdW) (T:DT K mg CD) (TM:MdT K mg CM CS) (B:Bl mg) :
  bA P w K mg base (CXo P w) (20+3*n+2) f fd ["model","state","happening"] (HI cf CM CD CS bs qs n):=by
 have GO:bA P w K mg base (CXo P w) (20+3*n+1) fO fdO ["model","state","happening"] (LP cf CM CD CS bs qs n):=N5 U MD bI GI DS GS DB T TM;have GW:bA P w K mg base CX0 1 fW fdW ["doing"] (spWr CD CS bs qs):=EO M T TM B;refine D.F.okX N6 (fun vs H Q E h=>?_) (fun dt A outer s H vs Q E hr h=>?_)
 ·obtain⟨m,W,ml,st,fs,ms,hv,mv,h,ds,hs,bx,qu,dr,se,rfl,_⟩:=h;rfl
 obtain⟨m,W,ml,st,fs,ms,hv,mv,h,ds,hs,bx,qu,dr,se,rfl,hm,ea,dL,hE,dV,hM,hS,ok,wt,wa,wb,dn,sz,p⟩:=h;have r1:cQ 1 _:=hr.mono (by omega);refine⟨_,ai (bh (i:=3) N6.nd rfl (Or.inl rfl) (aL GO hr (by rfl) U.m U.F.kp U.b .nil (dP.passes fun _ _ _ z=>z) (au (pv 0) (au (pv 1) (au (pv 2) aj)))))
  (ai (bh (i:=4) N6.nd rfl (Or.inl rfl) (cV Jq (pv 2) (eD (au (aL GW r1 (by rfl) M.m M.F.kp M.b .nil bC (au (pv 3) aj)) (au (cW (pv 3) rfl) aj)))))
  (ay (bN (eD (au (cW (pv 3) rfl) (au (pv 4) (au (cW (pv 3) rfl) aj))))))),?_⟩
 obtain⟨th,kh,rfl,dG,dz⟩:=id hE;refine{_,rfl,_,rfl,_,rfl,m,W,ml,st,fs,ms,_,mv,h,ds,hs,bx,qu,dr,se,rfl,hm,ea,dL,hE,dV,hM,hS,ok,wt,wa,wb,dn,sz,?_}
 cases ew:doS h ds (jG hs h.sg) (w0 bx qu dr se) with
 |error e=>
  rw[ew]at p;exact p
 |ok w'=>
 rw[ew]at p;intro H0 G2 L O Y em;have V:=Y.sm _ _ (O _ _ dG);have gM:wQ bs qs ds hs H0 L.m:=by
  rw[em];exact hM.same O
 refine{_,rfl,_,rfl,H0,L,h,ds,w',hs,rfl,Y,gM,fun G3 wl dv I qa s3 wr=>?_};have g3:=Y.same s3;refine{_,rfl,L.d,CD,L.dx,_,_,rfl,g3.hd,T.cl,T.nO,dF_o _ _ _ _ _ _ _ _,lt2,fun tt eb=>?_};have s4:=aF eb (.tup [.ref wl,.ref L.od]);refine{th,tt,_,_,rfl,rfl,SqT.of (s4 _ _ (s3 _ _ V)),SqT.of ag,(by intro z;cases z),(by show 7<=aB;decide),(fun z=>by cases z),fun _ rc hrc=>?_};have s5:=aF hrc (.tup [.ref kh,.int h.to,.str h.sg,.int h.a,.int h.b,.ref wl,.ref L.od]);have g:=(g3.same s4).same s5;refine{_,rfl,L.d,CD,L.dx,_,_,rfl,g.hd,T.cl,T.nS,xR _ _ _ _ _ _ _ _,_,rfl,_,rfl,L.d,CD,L.dx,_,_,rfl,g.hd,T.cl,T.nE,dF_e _ _ _ _ _ _ _ _,(by show 3<=aB;decide),fun t ht=>?_};have J:=aF ht (.tup [.ref L.st,.ref rc,.bl w'.en]);have Z:=(s4.trans s5).trans J;refine p _ L t rc wl dv I qa {{H0,O,g.same J},ag,{kh,J _ _ ag,dz},{Z _ _ wr.hl,Paired.mono (fun _ _ z=>z.keep fun b xs e=>Z _ _ e) wr.b,Paired.mono (fun _ _ z=>z.keep fun b xs e=>Z _ _ e) wr.q,wr.l.same Z,wr.nd,fun a ha=>none_of (O.trans Y.sm) (wr.fr a ha)},?_};refine gX.mpr {Y.nd,wr.nd,fun a ha b hb z=>?_};obtain⟨o,y⟩:=Y.there a ha;rw[z,wr.fr b hb]at y
 cases y
end
theorem cg{t u:TS}{D:m5}{σ:St}{H:Hp}(h:t {D with nx:=u D} σ H):M0 t u D σ H:=h
theorem cL{te:TE}{g:TG}{D:m5}{σ:St}{H:Hp}(h:te σ H fun x H1=>g x σ H1 D.nx):Je te g D σ H:=h
theorem aY{i:Nat}{v:V}{σ:St}{H:Hp}{Q:St->Hp->Prop}(h:Q (σ.set i (some v)) H):Cb i v σ H Q:=h
theorem uo{C:aa}{sp:Sp}{dvs:List V}{E:XK}{t:TA}{σ:St}{H:Hp}{Q:VK} (h:t σ H fun vs H1=>∀x dx,H1 x=none->H1 dx=none->dx≠x ->
  sp (.ref x::(vs++dvs)) (upd (upd H1 dx (.own x)) x (.ins C dx [])) (fun v H2=>v=.non/\Q (.ref x) H2) E):Lj C sp dvs E t σ H Q:=h
section
variable{X:Cx}{e:cN}{ta:TE}{f:Str}{pos:Pos}
theorem eg(K:ae)(Z:X.K=K)(Y:PE X e ta)(hb:me e f X.env (fg e X.env)=fg e X.env):PE X (.Attribute e f pos) (Nc K ta f):=by
 rw[<- Z];exact cW Y hb
theorem AK(K:ae)(Z:X.K=K):lF X (.type "list") (fun xs H Q=>∃p ys,xs=[.ref p]/\(SqL K H p ys\/SqT K H p ys)/\∀l,H l=none->Q (.ref l) (upd H l (.lst ys))):=by
 rw[<- Z];exact oR
end
theorem Dc{H:Hp}{n:Nat}{t:aa}{xs:List V}(ht:H t=some (.tup xs)\/H t=some (.lst xs))(T:Tree H n (.ref t)):∃m,n=m+1/\∀x∈xs,Tree H m x:=by
 cases n with
 |zero=>exact T.elim
 |succ m=>
  refine{m,rfl,?_}
  rcases T with T|⟨p,ys,e,h1,_,h2⟩
  ·exact T.elim
  ·cases e;have Z:xs=ys:=by
    rcases ht with ht|ht<;>rcases h1 with h1|h1<;>rw[ht]at h1<;>cases h1<;>rfl
   rw[Z];exact h2
theorem jb{H H':Hp}{n:Nat}{t:aa}{xs:List V}{Z:V}(ht:H t=some (.tup xs))(T:Tree H n (.ref t))(Y:Alike H H' n (.ref t) Z):∃m t' ys,Z=.ref t'/\H' t'=some (.tup ys)/\aP (Alike H H' m) xs ys/\∀x∈xs,Tree H m x:=by
 obtain⟨m,rfl,h⟩:=Dc (.inl ht) T;obtain⟨t',ys,e,h1,h2⟩:=ug ht Y;exact⟨m,t',ys,e,h1,h2,h⟩
theorem wR{H H':Hp}{n:Nat}{t:aa}{xs:List V}{Z:V}(ht:H t=some (.lst xs))(T:Tree H n (.ref t))(Y:Alike H H' n (.ref t) Z):∃m t' ys,Z=.ref t'/\H' t'=some (.lst ys)/\aP (Alike H H' m) xs ys/\∀x∈xs,Tree H m x:=by
 obtain⟨m,rfl,h⟩:=Dc (.inr ht) T;obtain⟨t',ys,e,h1,h2⟩:=oo ht Y;exact⟨m,t',ys,e,h1,h2,h⟩
theorem dJ{R:V->V->Prop}{x:V}{xs ys:List V}(r:aP R (x::xs) ys):∃y Z,ys=y::Z/\R x y/\aP R xs Z:=by
 cases r with
 |cons a b=>exact{_,_,rfl,a,b}
theorem oC{R:V->V->Prop}{ys:List V}(r:aP R [] ys):ys=[]:=by
 cases r;rfl
theorem jx.alike{bs qs:List Str}{H H':Hp}{v:V}{F:Fm}(h:jx bs qs H v F):∀{n:Nat} {W:V},Tree H n v->Alike H H' n v W->jx bs qs H' W F:=by
 induction h with
 |num h1 h2=>
  intro n W T Y;obtain⟨m,t',ys,rfl,g1,Z,_⟩:=jb h1 T Y;rw[iZ Z (by intro x hx;simp only[ar,aK,or_false]at hx;rcases hx with rfl|rfl<;>exact trivial)]at g1;exact .num g1 h2
 |box h1 h2=>
  intro n W T Y;obtain⟨m,t',ys,rfl,g1,Z,_⟩:=jb h1 T Y;rw[iZ Z (by intro x hx;simp only[ar,aK,or_false]at hx;rcases hx with rfl|rfl<;>exact trivial)]at g1;exact .box g1 h2
 |long h1 h2=>
  intro n W T Y;obtain⟨m,t',ys,rfl,g1,Z,_⟩:=jb h1 T Y;rw[iZ Z (by intro x hx;simp only[ar,aK,or_false]at hx;rcases hx with rfl|rfl<;>exact trivial)]at g1;exact .long g1 h2
 |got h1=>
  intro n W T Y;obtain⟨m,t',ys,rfl,g1,Z,_⟩:=jb h1 T Y;rw[iZ Z (by intro x hx;simp only[ar,aK,or_false]at hx;rcases hx with rfl|rfl<;>exact trivial)]at g1;exact .got g1
 |now h1=>
  intro n W T Y;obtain⟨m,t',ys,rfl,g1,Z,_⟩:=jb h1 T Y;rw[iZ Z (by intro x hx;rw[aE.mp hx];exact trivial)]at g1;exact .now g1
 |two h1 h2 _ _ i1 i2=>
  intro n W T Y;obtain⟨m,t',ys,rfl,g1,Z,tr⟩:=jb h1 T Y;obtain⟨J,U,rfl,M,Z⟩:=dJ Z;obtain⟨I,U,rfl,a1,Z⟩:=dJ Z;obtain⟨D,U,rfl,a2,Z⟩:=dJ Z;obtain rfl:=oC Z;have O:=fu (v:=.str _) trivial M;rw[O]at g1;exact .two g1 h2 (i1 (tr _ (by simp)) a1) (i2 (tr _ (by simp)) a2)
theorem FmI.alike{bs qs:List Str}{H H':Hp}{v Z:V}{F:Fm}{n:Nat}(h:FmI bs qs H v F)(T:Tree H n v)(Y:Alike H H' n v Z):FmI bs qs H' Z F:={h.1.alike T Y,h.2}
theorem mU.alike{H H':Hp}{R Y:List V->Prop}{v Z:V}{n:Nat}(h:mU H R v)(T:Tree H n v)(U:Alike H H' n v Z)(k:∀m vs ys,R vs->aP (Alike H H' m) vs ys->(∀x∈vs,Tree H m x)->Y ys):mU H' Y Z:=by
 obtain⟨l,vs,rfl,h1,h2,O⟩:=h;obtain⟨m,t',ys,rfl,g1,W,tr⟩:=wR h1 T U;exact{t',ys,rfl,g1,by rw[<- aZ W];exact h2,k m vs ys O W tr}
mutual
theorem eM.alike{bs qs:List Str}{H H':Hp}:∀(d:Dd) (v M:V) (n:Nat),eM bs qs H d v->Tree H n v->Alike H H' n v M->eM bs qs H' d M
 |.put x f,v,M,n,h,T,W=>by
  obtain⟨t,u,rfl,h1,h2,O⟩:=(by simpa only[eM] using h);obtain⟨m,t',ys,rfl,g1,Z,tr⟩:=jb h1 T W;obtain⟨I,Y,rfl,U,Z⟩:=dJ Z;obtain⟨D,Y,rfl,a1,Z⟩:=dJ Z;obtain⟨J,Y,rfl,a2,Z⟩:=dJ Z;obtain rfl:=oC Z;rw[fu (v:=.str _) trivial U,fu (v:=.str _) trivial a1]at g1;simp only[eM];exact{t',J,rfl,g1,h2,O.alike (tr _ (by simp)) a2}
 |.push x f,v,M,n,h,T,W=>by
  obtain⟨t,u,rfl,h1,h2,O⟩:=(by simpa only[eM] using h);obtain⟨m,t',ys,rfl,g1,Z,tr⟩:=jb h1 T W;obtain⟨I,Y,rfl,U,Z⟩:=dJ Z;obtain⟨D,Y,rfl,a1,Z⟩:=dJ Z;obtain⟨J,Y,rfl,a2,Z⟩:=dJ Z;obtain rfl:=oC Z;rw[fu (v:=.str _) trivial U,fu (v:=.str _) trivial a1]at g1;simp only[eM];exact{t',J,rfl,g1,h2,O.alike (tr _ (by simp)) a2}
 |.pull q x o,v,M,n,h,T,W=>by
  obtain⟨t,u,rfl,h1,h2,O,g⟩:=(by simpa only[eM] using h);obtain⟨m,t',ys,rfl,g1,Z,tr⟩:=jb h1 T W;obtain⟨I,Y,rfl,U,Z⟩:=dJ Z;obtain⟨D,Y,rfl,a1,Z⟩:=dJ Z;obtain⟨J,Y,rfl,a2,Z⟩:=dJ Z;obtain⟨z,Y,rfl,a3,Z⟩:=dJ Z;obtain rfl:=oC Z;rw[fu (v:=.str _) trivial U,fu (v:=.str _) trivial a1,fu (v:=.str _) trivial a2]at g1;simp only[eM];exact{t',z,rfl,g1,h2,O,g.alike (tr _ (by simp)) a3 fun m vs ys a b c=>fv.alike o vs ys m a b c}
 |.draw x f,v,M,n,h,T,W=>by
  obtain⟨t,u,rfl,h1,h2,O⟩:=(by simpa only[eM] using h);obtain⟨m,t',ys,rfl,g1,Z,tr⟩:=jb h1 T W;obtain⟨I,Y,rfl,U,Z⟩:=dJ Z;obtain⟨D,Y,rfl,a1,Z⟩:=dJ Z;obtain⟨J,Y,rfl,a2,Z⟩:=dJ Z;obtain rfl:=oC Z;rw[fu (v:=.str _) trivial U,fu (v:=.str _) trivial a1]at g1;simp only[eM];exact{t',J,rfl,g1,h2,O.alike (tr _ (by simp)) a2}
 |.send to sg sp rk a b,v,M,n,h,T,W=>by
  obtain⟨t,u,u1,u2,rfl,h1,h2,O,g⟩:=(by simpa only[eM] using h);obtain⟨m,t',ys,rfl,g1,Z,tr⟩:=jb h1 T W;obtain⟨I,Y,rfl,U,Z⟩:=dJ Z;obtain⟨D,Y,rfl,a1,Z⟩:=dJ Z;obtain⟨J,Y,rfl,a2,Z⟩:=dJ Z;obtain⟨z,Y,rfl,a3,Z⟩:=dJ Z;obtain⟨y4,Y,rfl,a4,Z⟩:=dJ Z;obtain⟨y5,Y,rfl,a5,Z⟩:=dJ Z;obtain⟨y6,Y,rfl,a6,Z⟩:=dJ Z;obtain rfl:=oC Z;rw[fu (v:=.str _) trivial U,fu (v:=.int _) trivial a1,fu (v:=.str _) trivial a2,fu (v:=.int _) trivial a4]at g1;simp only[eM];exact{t',z,y5,y6,rfl,g1,h2.alike (tr _ (by simp)) a3,O.alike (tr _ (by simp)) a5,g.alike (tr _ (by simp)) a6}
 |.ife f x y,v,M,n,h,T,W=>by
  obtain⟨t,u,u1,u2,rfl,h1,h2,O,g⟩:=(by simpa only[eM] using h);obtain⟨m,t',ys,rfl,g1,Z,tr⟩:=jb h1 T W;obtain⟨I,Y,rfl,U,Z⟩:=dJ Z;obtain⟨D,Y,rfl,a1,Z⟩:=dJ Z;obtain⟨J,Y,rfl,a2,Z⟩:=dJ Z;obtain⟨z,Y,rfl,a3,Z⟩:=dJ Z;obtain rfl:=oC Z;rw[fu (v:=.str _) trivial U]at g1;simp only[eM];exact{t',D,J,z,rfl,g1,h2.alike (tr _ (by simp)) a1,O.alike (tr _ (by simp)) a2 fun m vs ys a b c=>fv.alike x vs ys m a b c,g.alike (tr _ (by simp)) a3 fun m vs ys a b c=>fv.alike y vs ys m a b c}
 |.fin,v,M,n,h,T,W=>by
  obtain⟨t,rfl,h1⟩:=(by simpa only[eM] using h);obtain⟨m,t',ys,rfl,g1,Z,tr⟩:=jb h1 T W;obtain⟨I,Y,rfl,U,Z⟩:=dJ Z;obtain rfl:=oC Z;rw[fu (v:=.str _) trivial U]at g1;simp only[eM];exact⟨t',rfl,g1⟩
theorem fv.alike{bs qs:List Str}{H H':Hp}:∀(d:Ds) (vs ys:List V) (n:Nat),fv bs qs H d vs->aP (Alike H H' n) vs ys->(∀x∈vs,Tree H n x)->fv bs qs H' d ys
 |.nil,vs,ys,n,h,Z,T=>by
  have e:vs=[]:=by simpa only[fv] using h
  subst e;obtain rfl:=oC Z;simp only[fv]
 |.cons d r,vs,ys,n,h,Z,T=>by
  obtain⟨v,W,rfl,h1,h2⟩:=(by simpa only[fv] using h);obtain⟨y,Y,rfl,a,b⟩:=dJ Z;simp only[fv];exact{y,Y,rfl,eM.alike d v y n h1 (T v aC) a,fv.alike r W Y n h2 b fun x hx=>T x (ah _ hx)}
end
theorem q9{U:Type}{R W:V->U->Prop}{S:V->V->Prop}{T:V->Prop}(f:∀v a Y,R v a->S v Y->T v->W Y a):∀{xs ys:List V} {Z:List U},aP R xs Z->aP S xs ys->(∀x∈xs,T x)->aP W ys Z:=by
 intro xs ys Z p
 induction p generalizing ys with
 |nil=>
  intro q _
  cases q;exact .nil
 |cons a b O=>
  intro q t
  cases q with
  |cons c d=>exact .cons (f _ _ _ a c (t _ aC)) (O d fun x hx=>t x (ah _ hx))
theorem wQ.alike{bs qs:List Str}{ds:List Int}{hs:List (Str×Ds)}{H H':Hp}{v Y:V}{n:Nat}(h:wQ bs qs ds hs H v)(T:Tree H n v)(al:Alike H H' n v Y):wQ bs qs ds hs H' Y:=by
 obtain⟨t,bl,ql,dl,hl,nm,vb,hv,rfl,h1,h2,h3,h4,h5,h6,h7⟩:=h.ex;obtain⟨m,t',ys,rfl,g1,Z,tr⟩:=jb h1 T al;obtain⟨y0,W,rfl,a0,Z⟩:=dJ Z;obtain⟨y1,W,rfl,a1,Z⟩:=dJ Z;obtain⟨y2,W,rfl,a2,Z⟩:=dJ Z;obtain⟨y3,W,rfl,a3,Z⟩:=dJ Z;obtain⟨y4,W,rfl,a4,Z⟩:=dJ Z;obtain rfl:=oC Z;obtain⟨m1,b',D,rfl,c1,d1,t1⟩:=wR h2 (tr _ (by simp)) a1;obtain⟨m2,q',dL,rfl,g,d2,t2⟩:=wR h4 (tr _ (by simp)) a2;obtain⟨m3,e',dV,rfl,c3,d3,t3⟩:=wR h5 (tr _ (by simp)) a3;obtain⟨m4,f',I,rfl,c4,d4,t4⟩:=wR h6 (tr _ (by simp)) a4;rw[iZ d2 (by intro x hx;obtain⟨z,_,rfl⟩:=cB.mp hx;exact trivial)]at g;rw[iZ d3 (by intro x hx;obtain⟨z,_,rfl⟩:=cB.mp hx;exact trivial)]at c3;refine{t',b',q',e',f',y0,D,I,rfl,g1,c1,q9 (fun v a Y x y z=>?_) h3 d1 t1,g,c3,c4,q9 (fun v a Y x y z=>?_) h7 d4 t4}
 ·obtain⟨p,k,rfl,hp⟩:=x;obtain⟨m',M,ws,rfl,k1,k2,_⟩:=jb hp z y;obtain⟨w0,wr,rfl,J,k2⟩:=dJ k2;obtain⟨U,wr,rfl,b1,k2⟩:=dJ k2;obtain rfl:=oC k2;rw[fu (v:=.str _) trivial J]at k1;exact⟨M,U,rfl,k1⟩
 ·obtain⟨p,u,rfl,hp,hu⟩:=x;obtain⟨m',M,ws,rfl,k1,k2,O⟩:=jb hp z y;obtain⟨w0,wr,rfl,J,k2⟩:=dJ k2;obtain⟨U,wr,rfl,b1,k2⟩:=dJ k2;obtain rfl:=oC k2;rw[fu (v:=.str _) trivial J]at k1;exact{M,U,rfl,k1,hu.alike (O _ (by simp)) b1 fun m vs ys a b c=>fv.alike _ vs ys m a b c}
def LQ(K:ae):List V->Hp->VK->Prop:=fun xs H Q=>∃p ys,xs=[.ref p]/\(SqL K H p ys\/SqT K H p ys)/\Q (.int ys.length) H
theorem eX{X:Cx}(K:ae)(Z:X.K=K):lF X (.builtin "len") (LQ K):=by
 rw[<- Z];exact ip
theorem wU{X:Cx}(K:ae)(Z:X.K=K):IxR X (Ng K):=by
 rw[<- Z];exact cJ
theorem pB{X:Cx}(K:ae)(Z:X.K=K):IxR X (rIxT K):=by
 rw[<- Z];exact cF
theorem Kq{X:Cx}{pos:Pos}{es:List cN}{k:Nat}{t:TGs}{n:Nat}(K:ae)(Z:X.K=K)(hc:X.calm=true)(h:PGs X es t)
  (Y:(lE es X.env).length=n:=by rfl) (hst:(lE es X.env).findIdx? (·.1)=none:=by rfl):PG X (.Tuple es k pos) (gTup K n t):=by
 rw[<- Z];exact vT hc h Y hst
theorem BZ:1<=aB:=by decide
theorem eS{te:TE}{D:m5}{σ:St}{H:Hp}(h:te σ H D.rt):tRet te D σ H:=h
theorem ER{K:ae}{m C dx U:aa}{fs:List (Str×V)}{f:Str}{ms:List V}{n i:Nat}{g:TG}{tc:L2.TT}{te:TE}{σ:St}{H:Hp}{Q:VK}(hv:σ[i]?=some (some (.ref m)))(hm:H m=some (.ins C dx fs))(cl:Cls K C)(na:eI K C f)(z:fs.lookup f=some (.ref U))(O:H U=some (.lst ms))(J:ms.length<1000)
  (Z:Nat->List V->Hp->Prop) (h0:Z 0 [] H) (hl:∀i ys H,i<=ms.length->Z i ys H->ys.length<aB)
  (hs:∀i ys H,i<ms.length->Z i ys H->g (.int (0+i)) (cD n none++σ) H fun W H2=>W.drop n=σ/\tc W H2 fun b M=>if b=true then te W M fun y t=>Z (i+1) (ys++[y]) t else Z (i+1) ys M)
  (hd:∀ys H,Z ms.length ys H->∀p,H p=none->Q (.ref p) (upd H p (.lst ys))):uM n (Fx (pI (tCB (LQ K) (pI (Nc K (Jc i) f) Bm)) Bm)) g tc te σ H Q:=by
 refine{.ref m,hv,m,C,dx,fs,.ref U,rfl,hm,cl,na,z,U,ms,rfl,.inl (SqL.of O),(ms.length:Int),rfl,by omega,by omega,?_};rw[uY];refine{fun i k ys H=>k=ms.length-i/\i<=ms.length/\Z i ys H,{ms.length,by simp,bU _,h0},?_};rintro i k ys H ⟨rfl,hi,Y⟩;refine{hl i ys H hi Y,?_}
 by_cases lt:i<ms.length
 ·refine .inr {lt,Z (i+1),fun D H' I=>{ms.length-(i+1),by omega,rfl,lt,I},fun x H' y=>?_};obtain⟨e,y⟩:=y;subst e y;exact hs i ys _ lt Y
 ·have e:i=ms.length:=by omega
  subst e;exact .inl {aD _,hd ys H Y}
theorem B0{K:ae}{a:aa}{xs:List V}{n i:Nat}{g:TG}{tc:L2.TT}{te:TE}{σ:St}{H:Hp}{Q:VK}(hv:σ[i]?=some (some (.ref a)))(hx:SqL K H a xs)(Z:Nat->List V->Hp->Prop)(h0:Z 0 [] H)(hl:∀i ys H,i<=xs.length->Z i ys H->SqL K H a xs/\ys.length<aB)
  (hs:∀i x t ys H,xs[i]?=some x->Z i ys H->H t=none->g (.ref t) (cD n none++σ) (upd H t (.tup [.int i,x])) fun Y H2=>Y.drop n=σ/\tc Y H2 fun b W=>if b=true then te Y W fun y U=>Z (i+1) (ys++[y]) U else Z (i+1) ys W)
  (hd:∀ys H,Z xs.length ys H->∀p,H p=none->Q (.ref p) (upd H p (.lst ys))):uM n (Lw K (pI (Jc i) Bm)) g tc te σ H Q:=
 {.ref a,hv,a,rfl,⟨xs,hx⟩,EF Z h0 hl hs hd}
def tj(H:Hp)(v:V)(e:Ev):Prop:=∃t,v=.ref t/\H t=some (.tup [.int e.t,.int e.r,.int e.to,.str e.sg,.int e.a,.int e.b])
theorem tj.same{H H':Hp}(s:aV H H'){v:V}{e:Ev}(h:tj H v e):tj H' v e:=by
 obtain⟨t,e,h⟩:=h;exact{t,e,s _ _ h}
def atP(e:Ev)(i:Nat):Ev:={e with fr:=-1,c:=i}
section
variable{P:aN}{w:bL}{K:ae}{mg:Str->Option af}{base:cz}{f fP CB:aa}{fd fdP:bR}
inductive HK(vs:List V)(H:Hp)(Q:VK)(_e:XK):Prop where
 |mk(sl:aa)(svs:List V)(es:List Ev)(_:vs=[.ref sl])(_:H sl=some (.lst svs))(_:aP (tj H) svs es)(_:es.length<1000)(_:∀(G:Hp) (l:aa) (ys:List V),aV H G->H l=none->G l=some (.lst ys)->ys.length=es.length->(∀i y e,ys[i]?=some y->es[i]?=some e->hZ G y (atP e i))->Q (.ref l) G):HK vs H Q _e
def HL:Sp:=fun vs H Q Z=>HK vs H Q Z
theorem scPf:bM ["signs"] ["signs"] (aM gc):={}
theorem ndPf:((["place","sign"]:List Str)++(["signs"]:List Str)).Nodup:=by decide +kernel
theorem zu(D:Df K mg "pending_at_first" gc ["signs"] f fd)(ME:mg "enumerate"=none):bA P w K mg base CX0 1 f fd ["signs"] HL:=by
 refine D.F.ok scPf (fun vs H Q E h=>?_) (fun bG A outer s H vs Q E hr h=>?_)
 ·obtain⟨sl,O,es,rfl,_⟩:=h;rfl
 obtain⟨sl,O,es,rfl,V,ps,bF,k⟩:=h;refine⟨_,ay (bN (mP ["place","sign"] (iI.open (NN:=["signs"]) (N:=["signs"]) (sc:=aM gc) rfl rfl (by decide +kernel) rfl (by decide +kernel) (by decide +kernel) rfl (by decide +kernel)) rfl (JM (by rfl) ME (au (pv 0) aj))
  (fun _ _ _ _=>Kq (n:=2) K (by rfl) rfl (jg (dO (i:=0) ndPf rfl (Or.inl rfl)) (jg (dO (i:=1) ndPf rfl (Or.inl rfl)) sI))) (fun _ _ _ _=>jY)
  (fun _ _ _ _=>eD (au (eD (au (bP (pB K (by rfl)) (pv 1) aw (by intro _ _;rfl)) (au (bP (pB K (by rfl)) (pv 1) aw (by intro _ _;rfl)) (au (Fy Bf aw) (au (pv 0) aj)))))
   (au (bP (pB K (by rfl)) (pv 1) aw (by intro _ _;rfl)) (au (bP (pB K (by rfl)) (pv 1) aw (by intro _ _;rfl)) (au (bP (pB K (by rfl)) (pv 1) aw (by intro _ _;rfl)) (au (bP (pB K (by rfl)) (pv 1) aw (by intro _ _;rfl)) aj)))))))),?_⟩
 have big:=dW;have bH:=aZ ps;refine eS ?_;refine B0 (K:=K) (a:=sl) (xs:=O) rfl (SqL.of V) (fun i ys G=>ys.length=i/\aV H G/\∀j y e,ys[j]?=some y->es[j]?=some e->hZ G y (atP e j)) {rfl,aV.refl _,fun j y e h=>by simp at h} ?_ ?_ ?_
 ·rintro i ys G hi ⟨h1,h2,_⟩;exact{SqL.of (h2 _ _ V),by omega}
 ·rintro i x t ys G hi ⟨h1,h2,z⟩ ht;obtain⟨e,I,Y,rfl,J⟩:=oB ps hi;have M:=aF ht (.tup [.int i,.ref Y]);have hq:=M _ _ (h2 _ _ J);refine{t,_,rfl,SqT.of ag,rfl,_,_,rfl,_,_,rfl,rfl,?_};refine{rfl,?_};unfold xK;refine iH ?_;refine{_,rfl,Y,_,_,_,rfl,rfl,SqT.of hq,rfl,_,rfl,Y,_,_,_,rfl,rfl,SqT.of hq,rfl,_,rfl,_,rfl,(by show 4<=aB;decide),fun kt g=>?_};have sk:=aF g (.tup [.int e.t,.int e.r,.int (-1),.int i]);have Z:=sk _ _ hq;refine{_,rfl,Y,_,_,_,rfl,rfl,SqT.of Z,rfl,_,rfl,Y,_,_,_,rfl,rfl,SqT.of Z,rfl,_,rfl,Y,_,_,_,rfl,rfl,SqT.of Z,rfl,_,rfl,Y,_,_,_,rfl,rfl,SqT.of Z,rfl,(by show 5<=aB;decide),fun et bI=>?_};have se:=aF bI (.tup [.ref kt,.int e.to,.str e.sg,.int e.a,.int e.b]);have sA:=(M.trans sk).trans se;refine{by rw[aA,h1];rfl,h2.trans sA,fun j y e' hy W=>?_}
  rcases ve j ys.length with lt|ge
  ·rw[eO lt]at hy;exact (z j y e' hy W).same sA
  ·rw[df ge]at hy;have ej:j=i:=by
    by_cases c:j-ys.length=0
    ·omega
    ·rw[List.getElem?_cons,if_neg c]at hy;simp at hy
   subst ej;rw[h1,mH]at hy
   cases hy;rw[I]at W
   cases W;exact{et,kt,rfl,ag,se _ _ ag}
 ·rintro ys G ⟨h1,h2,z⟩ l hl;have U:=aF hl (.lst ys);exact k _ l ys (h2.trans U) (none_of h2 hl) ag (by omega) fun i y e hy I=>(z i y e hy I).same U
inductive N7(vs:List V)(H:Hp)(Q:VK)(_e:XK):Prop where
 |mk(q:aa)(v:V)(_:vs=[.ref q,v])(_:H q=some (.lst []))(_:Q (.int 0) H):N7 vs H Q _e
inductive N8(vs:List V)(H:Hp)(Q:VK)(_e:XK):Prop where
 |mk(q:aa)(v:V)(_:vs=[.ref q,v])(_:H q=some (.lst []))(_:Q .non (upd H q (.lst [v]))):N8 vs H Q _e
theorem yv:bM ["falling","thing","low","high","middle"] ["falling","thing"] (aM o8):={}
theorem scPic:bM ["falling","thing"] ["falling","thing"] (aM qF):={}
def HM(r e s:V):List (Str×V):=cH "states" s (cH "ending" e (cH "records" r []))
structure BkT(K:ae)(mg:Str->Option af)(CB:aa):Prop where
 cl:Cls K CB
 nR:eI K CB "records"
 nE:eI K CB "ending"
 nS:eI K CB "states"
 m:mg "Book"=some (.ref CB)
inductive LR(CB:aa)(vs:List V)(H:Hp)(Q:VK)(_e:XK):Prop where
 |mk(b dx:aa)(r e s:V)(_:vs=[.ref b,r,e,s])(_:H b=some (.ins CB dx []))(_:∀G,G b=some (.ins CB dx (HM r e s))->But b H G->Q .non G):LR CB vs H Q _e
def N9(CB:aa):Sp:=fun vs H Q Z=>LR CB vs H Q Z
theorem scBk:bM ["self","records","ending","states"] ["self","records","ending","states"] (aM qG):={}
theorem LS(F:Fun K "__init__" "Book.__init__" qG f fd)(T:BkT K mg CB):bA P w K mg base CX0 1 f fd ["self","records","ending","states"] (N9 CB):=by
 refine F.ok scBk (fun vs H Q E h=>?_) (fun Y A outer s H vs Q E hr h=>?_)
 ·obtain⟨b,dx,r,e,s',rfl,_⟩:=h;rfl
 obtain⟨b,dx,r,e,s',rfl,hb,k⟩:=h;refine{_,ai (eJ (pv 0) (pv 1) rfl) (ai (eJ (pv 0) (pv 2) rfl) (ay (eJ (pv 0) (pv 3) rfl))),?_};have Z:=gZ "records" r [];have W:=gZ "ending" e (cH "records" r []);simp only[cw]at Z;refine{_,rfl,_,rfl,b,CB,dx,[],rfl,hb,T.cl,T.nR,(by show 0<1000;decide),_,rfl,_,rfl,b,CB,dx,_,rfl,ag,T.cl,T.nE,(by omega),_,rfl,_,rfl,b,CB,dx,_,rfl,ag,T.cl,T.nS,(by omega),?_};exact k _ ag (((But.upd b H _).trans (But.upd b _ _)).trans (But.upd b _ _))
theorem bk_r(r e s:V):(HM r e s).lookup ("records":Str)=some r:=rfl
theorem bk_e(r e s:V):(HM r e s).lookup ("ending":Str)=some e:=rfl
def qN(wd:Str):Sp:=fun vs H Q _=>∃a,vs=[a]/\Q (.str wd) H
theorem ES:bM ["self"] ["self"] (aM nj):={}
theorem lZ(F:Fun K "word" "Nought.word" nj f fd):qB P w K mg base CX0 1 f fd ["self"] (qN "nought"):=by
 refine F.okH ES (fun vs H Q E h=>?_) (fun Z A outer s H vs Q E h=>?_)
 ·obtain⟨a,rfl,_⟩:=h;rfl
 obtain⟨a,rfl,q⟩:=h;exact{_,ay (bN cb),q}
end
mutual
def Dd.toOk(m:Int):Dd->Prop
 |.send to _ _ _ _ _=>0<=to/\to<m
 |.pull _ _ o=>o.toOk m
 |.ife _ t e=>t.toOk m/\e.toOk m
 |_=>True
def Ds.toOk(m:Int):Ds->Prop
 |.nil=>True
 |.cons d r=>d.toOk m/\r.toOk m
end
def ddz:Nat->Nat
 |0=>1
 |n+1=>1+6*ddz n
structure MD where
 nm:Str
 bs:List Str
 qs:List Str
 ds:List Int
 hs:List (Str×Ds)
 ps:List (Str×Int)
def B1(H:Hp)(v:V)(M:MD):Prop:=∃(t bl ql:aa) (W U Y:V) (Z:List V),v=.ref t/\H t=some (.tup [W,.ref bl,.ref ql,U,Y])/\H bl=some (.lst Z)/\gO H M.ps Z/\H ql=some (.lst (M.qs.map V.str))
structure MoI(m:Int)(H:Hp)(v:V)(M:MD):Prop where
 ma:wQ M.bs M.qs M.ds M.hs H v
 fs:B1 H v M
 kb:M.ps.map (·.1)=M.bs
 nb:M.bs.Nodup
 nq:M.qs.Nodup
 lb:M.bs.length<=9
 lq:M.qs.length<=9
 ld:M.ds.length<=100
 lh:M.hs.length<=9
 wb:∀q∈M.ps,Wo q.2
 hk:∀q∈M.hs,q.2.toOk m/\q.2.deep<=4/\q.2.size<=3*ddz 4
theorem B1.same{H H':Hp}(s:aV H H'){v:V}{M:MD}(h:B1 H v M):B1 H' v M:=by
 obtain⟨t,bl,ql,Z,Y,O,U,e,h1,h2,J,W⟩:=h;exact{t,bl,ql,Z,Y,O,U,e,s _ _ h1,s _ _ h2,J.same s,s _ _ W}
theorem MoI.same{m:Int}{H H':Hp}(s:aV H H'){v:V}{M:MD}(h:MoI m H v M):MoI m H' v M:=
 {h.ma.same s,h.fs.same s,h.kb,h.nb,h.nq,h.lb,h.lq,h.ld,h.lh,h.wb,h.hk}
def zv(m:Int)(H:Hp)(Z:aa)(Ms:List MD):Prop:=∃xs,H Z=some (.lst xs)/\aP (MoI m H) xs Ms
theorem zv.same{m:Int}{H H':Hp}(s:aV H H'){Z:aa}{Ms:List MD}(h:zv m H Z Ms):zv m H' Z Ms:=by
 obtain⟨xs,h1,h2⟩:=h;exact{xs,s _ _ h1,Paired.mono (fun _ _ z=>z.same s) h2}
abbrev qO(zs:List (V×List Int)):Prop:=zs.Pairwise (fun a b=>HT.lexLt b.2 a.2=true)
theorem qO.put{zs:List (V×List Int)}{x:V×List Int}{i:Nat}(h:qO zs)(h1:∀(j:Nat) z,j<i->zs[j]?=some z->HT.lexLt x.2 z.2=true)(h2:∀(j:Nat) z,i<=j->zs[j]?=some z->HT.lexLt z.2 x.2=true):qO (zs.take i++x::zs.drop i):=by
 have a1:∀a∈zs.take i,HT.lexLt x.2 a.2=true:=fun a ha=>by
  obtain⟨j,Z⟩:=dH ha;have lt:j<(zs.take i).length:=(aG.mp Z).1;rw[c9]at lt;rw[zS (by omega)]at Z;exact h1 j a (by omega) Z
 have a2:∀a∈zs.drop i,HT.lexLt a.2 x.2=true:=fun a ha=>by
  obtain⟨j,Z⟩:=dH ha;rw[Fk]at Z;exact h2 (i+j) a (by omega) Z
 have hh:qO (zs.take i++zs.drop i):=by
  rw[rg];exact h
 obtain⟨W,p2,Y⟩:=gY.mp hh;refine gY.mpr {W,gI.mpr {fun b hb=>a2 b hb,p2},fun a ha b hb=>?_}
 rcases ar.mp hb with z|z
 ·rw[z];exact a1 a ha
 ·exact Y a ha b z
theorem qO.at_{zs:List (V×List Int)}(h:qO zs){i j:Nat}(lt:i<j){y z:V×List Int}(hi:zs[i]?=some y)(Z:zs[j]?=some z):HT.lexLt z.2 y.2=true:=by
 obtain⟨Y,e1⟩:=aG.mp hi;obtain⟨U,W⟩:=aG.mp Z;have:=dC.mp h i j Y U lt;rw[e1,W]at this;exact this
section
variable{P:aN}{w:bL}{K:ae}{mg:Str->Option af}{base:cz}{f fP:aa}{fd fdP:bR}
inductive HN(vs:List V)(H:Hp)(Q:VK)(_e:XK):Prop where
 |mk(q b:aa)(zs:List (V×List Int))(n:List Int)(_:vs=[.ref q,.ref b])(_:H q=some (.lst (zs.map (·.1))))(_:(∀z∈zs,BM H z))(_:qO zs)(_:BM H (.ref b,n))(_:n∉zs.map (·.2))(_:zs.length<=10000000)(_:∀i:Nat,i<=zs.length->qO (zs.take i++(V.ref b,n)::zs.drop i)->Q (.int i) H):HN vs H Q _e
def LU:Sp:=fun vs H Q Z=>HN vs H Q Z
theorem Oa(D:Df K mg "place_in" o8 ["falling","thing"] f fd)(B:Bl mg):bA P w K mg base CX0 1 f fd ["falling","thing"] LU:=by
 refine D.F.ok yv (fun vs H Q E h=>?_) (fun da A outer s H vs Q E hr h=>?_)
 ·obtain⟨q,b,zs,n,rfl,_⟩:=h;rfl
 obtain⟨q,b,zs,n,rfl,hq,hz,J,hb,nn,hl,k⟩:=h;have hu:=lN hr;obtain⟨b0,kb,rb,eb,U,M⟩:=hb
 cases eb;refine⟨_,ai (bh (i:=2) yv.nd rfl (Or.inl rfl) aw)
  (ai (bh (i:=3) yv.nd rfl (Or.inl rfl) (cS ip (by rfl) B.len cA (au (pv 0) aj)))
  (ai (vU cO (bO rH (pv 2) (pv 3) (bX _))
   (ai (bh (i:=4) yv.nd rfl (Or.inl rfl) (cV Ji (cV gP (pv 2) (pv 3)) aw))
   (ay (cK (bO (NG hu) (bP cJ (pv 0) (pv 4) (fun _ _=>rfl)) (pv 1) (bX _))
    (ay (bh (i:=2) yv.nd rfl (Or.inl rfl) (cV gP (pv 4) aw)))
    (ay (bh (i:=3) yv.nd rfl (Or.inl rfl) (pv 4)))))))
  (ay (bN (pv 2))))),?_⟩
 refine{_,rfl,q,_,rfl,.inl (SqL.of hq),?_};refine Aa (fun σ H2=>∃(lo hi:Nat) (m:Option V),σ=[some (.ref q),some (.ref b),some (.int lo),some (.int hi),m]/\H2=H/\lo<=hi/\hi<=zs.length /\
   (∀(j:Nat) (z:V×List Int),j<lo->zs[j]?=some z->HT.lexLt n z.2=true)/\∀(j:Nat) (z:V×List Int),hi<=j->zs[j]?=some z->HT.lexLt n z.2=false)
  (fun σ _=>match σ with | [_,_,some (.int lo),some (.int hi),_]=>(hi-lo).toNat|_=>0) ?_ ?_ ?_
 ·refine{0,zs.length,none,?_,rfl,bU _,aD _,fun j z h=>absurd h (gW _),fun j z h e=>?_}
  ·rw[ao];rfl
  ·rw[gJ (by omega)]at e
   cases e
 ·rintro σ H2 ⟨lo,hi,m,rfl,rfl,h1,h2,h3,h4⟩;refine{_,rfl,_,rfl,_,_,rfl,rfl,_,rfl,?_};refine gi (fun c=>?_) (fun c=>?_)
  ·have c:lo<hi:=by
    have z:=of_decide_eq_true c;omega
   refine{_,rfl,_,rfl,_,_,rfl,rfl,_,_,rfl,rfl,{by decide,by decide},?_};have em:((lo:Int)+(hi:Int))/2=(((lo+hi)/2:Nat):Int):=by omega
   have lm:(lo+hi)/2<zs.length:=by omega
   obtain⟨z,Z⟩:∃z,zs[(lo+hi)/2]?=some z:={_,aI lm};have mz:=cq Z;obtain⟨az,kz,rz,ez,I,dc⟩:=hz z mz;have ea:(zs.map (·.1))[(lo+hi)/2]?=some (.ref az):=by rw[cC,Z,GK,ez]
   have nz:z.2≠n:=fun y=>nn (by rw[<- y];exact jk mz);refine{_,rfl,_,rfl,q,_,_,_,rfl,rfl,SqL.of hq,(by rw[em];exact ij ea),_,rfl,az,b,kz,kb,z.2,n,rz,rb,rfl,rfl,I,U,dc,M,nz,_,rfl,?_};refine gi (fun g=>?_) (fun g=>?_)
   ·refine{_,rfl,_,_,rfl,rfl,{(lo+hi)/2+1,hi,some (.int (((lo:Int)+(hi:Int))/2)),?_,rfl,by omega,h2,fun j y W e=>?_,h4},?_}
    ·have t:(((lo+hi)/2+1:Nat):Int)=((lo:Int)+(hi:Int))/2+1:=by omega
     rw[t];rfl
    ·by_cases O:j=(lo+hi)/2
     ·rw[O,Z]at e
      cases e;exact g
     ·exact HT.lx_trans g (J.at_ (show j<(lo+hi)/2 by omega) e Z)
    ·show ((hi:Int)-(((lo:Int)+(hi:Int))/2+1)).toNat<((hi:Int)-(lo:Int)).toNat;omega
   ·refine{_,rfl,{lo,(lo+hi)/2,some (.int (((lo:Int)+(hi:Int))/2)),?_,rfl,by omega,by omega,h3,fun j y W e=>?_},?_}
    ·rw[<- em];rfl
    ·have g':HT.lexLt n z.2=false:=by
      cases e':HT.lexLt n z.2 with
      |false=>rfl
      |true=>exact absurd e' g
     by_cases O:j=(lo+hi)/2
     ·rw[O,Z]at e
      cases e;exact g'
     ·have z1:=J.at_ (show (lo+hi)/2<j by omega) Z e
      cases e':HT.lexLt n y.2 with
      |false=>rfl
      |true=>
       have z2:=HT.lx_trans e' z1;rw[g']at z2
       cases z2
    ·show ((((lo:Int)+(hi:Int))/2)-(lo:Int)).toNat<((hi:Int)-(lo:Int)).toNat;omega
  ·have e:lo=hi:=by
    have z:¬((lo:Int)<(hi:Int)):=fun z=>c (decide_eq_true z);omega
   subst e;refine{_,rfl,k lo h2 (J.put h3 fun j z W e=>?_)};exact HT.lx_of_not (h4 j z W e) fun y=>nn (by
    have y:n=z.2:=y;rw[y];exact jk (cq e))
 ·rintro σ H2 Q1 Q2 Y h;obtain⟨a1,e1,a2,t,i,j,e3,e4,b',e5,h⟩:=h;exact{a1,e1,a2,t,i,j,e3,e4,b',e5,Y _ _ h}
inductive HP(vs:List V)(H:Hp)(Q:VK)(_e:XK):Prop where
 |mk(q b:aa)(zs:List (V×List Int))(n:List Int)(_:vs=[.ref q,.ref b])(_:H q=some (.lst (zs.map (·.1))))(_:(∀z∈zs,BM H z))(_:qO zs)(_:BM H (.ref b,n))(_:n∉zs.map (·.2))(_:zs.length<=10000000)(_:∀zs':List (V×List Int),zs'.Perm ((V.ref b,n)::zs)->qO zs'->Q .non (upd H q (.lst (zs'.map (·.1))))):HP vs H Q _e
def AL:Sp:=fun vs H Q Z=>HP vs H Q Z
theorem uq(D:Df K mg "put_in" qF ["falling","thing"] f fd)(Z:Df K mg "place_in" o8 ["falling","thing"] fP fdP)(B:Bl mg):bA P w K mg base CX0 2 f fd ["falling","thing"] AL:=by
 have O:bA P w K mg base CX0 1 fP fdP ["falling","thing"] LU:=Oa Z B;refine D.F.ok scPic (fun vs H Q E h=>?_) (fun W A outer s H vs Q E hr h=>?_)
 ·obtain⟨q,b,zs,n,rfl,_⟩:=h;rfl
 obtain⟨q,b,zs,n,rfl,hq,U,Y,hb,nn,hl,k⟩:=h;refine{_,ay (d9 (nX bV PySem.F.slot_list_insert PySem.F.type_list_insert EC (pv 0) (au (aL O hr rfl Z.m Z.F.kp Z.b .nil bC (au (pv 0) (au (pv 1) aj))) (au (pv 1) aj)))),?_};have sl:10000000<aB:=by decide
 refine{_,rfl,.inl {rfl,_,SqL.of hq},_,rfl,_,rfl,q,b,zs,n,rfl,hq,U,Y,hb,nn,hl,fun i hi M=>{_,rfl,q,_,i,.ref b,rfl,rfl,hq,by rw[ao];exact hi,by rw[ao];omega,?_}};have z:=k (zs.take i++(V.ref b,n)::zs.drop i) ?_ M
 ·rw[bT,b9,zZ,List.map_drop]at z;exact z
 ·refine vJ.trans ?_;rw[rg]
end
structure Sta where
 bx:List (Str×Int)
 qu:List (Str×List Int)
 dr:Nat
 se:Int
def Sta.w(s:Sta):Wk:=w0 s.bx s.qu s.dr s.se
structure Rec where
 h:Ev
 wb:List (Str×Int)
 wq:List (Str×List Int)
 out:List Ev
inductive Stp where
 |fin(h:Ev)
 |flt(e:Flt)(h:Ev)
inductive End where
 |empty
 |cut
 |stp(s:Stp)
structure RS where
 sts:List Sta
 pd:List Ev
 re:Option Ev
 sp:Option Stp
def Ev.key(e:Ev):List Int:=[e.t,e.r,e.fr,e.c]
def kD(x:Ev):List Ev->List Ev
 | []=>[x]
 |y::ys=>if HT.lexLt x.key y.key=true then y::kD x ys else x::y::ys
def kZ(xs pd:List Ev):List Ev:=xs.foldl (fun p e=>kD e p) pd
abbrev kS(es:List Ev):Prop:=es.Pairwise (fun a b=>HT.lexLt b.key a.key=true)
def gT(r:RS)(left:Int):Option End:=match r.sp with
 |some s=>some (.stp s)
 |none=>if r.pd.isEmpty=true then some .empty else if left<=0 then some .cut else none
def fY(Ms:List MD)(r:RS):RS×List Rec:=match r.pd.getLast? with
 |none=>(r,[])
 |some h=>match Ms[h.to.toNat]?,r.sts[h.to.toNat]? with
  |some M,some s=>(match doS h M.ds (jG M.hs h.sg) s.w with
   |.error e=>({r with pd:=r.pd.dropLast,sp:=some (.flt e h)},[])
   |.ok w=>({r.sts.set h.to.toNat ⟨w.bx,w.qu,w.dr,w.se⟩,kZ w.out r.pd.dropLast,some h,if w.en=true then some (.fin h) else none},[{h,wrB M.bs w,wrQ M.qs w,w.out}]))
  |_,_=>(r,[])
def itR(Ms:List MD)(r:RS):Nat->RS×List Rec
 |0=>(r,[])
 |n+1=>((fY Ms (itR Ms r n).1).1,(itR Ms r n).2++(fY Ms (itR Ms r n).1).2)
theorem ia(x:Ev):∀ys:List Ev,(kD x ys).Perm (x::ys)
 | []=>iK _
 |y::ys=>by
  unfold kD
  split
  ·exact ((ia x ys).cons y).trans (List.Perm.swap x y ys)
  ·exact iK _
theorem d8:∀(xs pd:List Ev),(kZ xs pd).Perm (xs++pd)
 | [],pd=>iK _
 |x::xs,pd=>by
  show (kZ xs (kD x pd)).Perm _;refine (d8 xs (kD x pd)).trans ?_;refine ((iK xs).append (ia x pd)).trans ?_;exact vJ
theorem lA{x:Ev}:∀{ys:List Ev},kS ys->(∀y∈ys,x.key≠y.key)->kS (kD x ys)
 | [],_,_=>ib _ _
 |y::ys,h,n=>by
  obtain⟨h1,h2⟩:=gI.mp h;unfold kD
  by_cases c:HT.lexLt x.key y.key=true
  ·rw[if_pos c];refine gI.mpr {fun z Z=>?_,lA h2 fun z Z=>n z (ah _ Z)}
   rcases ar.mp ((ia x ys).mem_iff.mp Z) with e|e
   ·rw[e];exact c
   ·exact h1 z e
  ·rw[if_neg c];have lt:HT.lexLt y.key x.key=true:=HT.lx_of_not (by
    cases e:HT.lexLt x.key y.key with
    |false=>rfl
    |true=>exact absurd e c) (n y aC)
   refine gI.mpr {fun z Z=>?_,h}
   rcases ar.mp Z with e|e
   ·rw[e];exact lt
   ·exact HT.lx_trans (h1 z e) lt
theorem uu:∀{xs ys:List Ev},kS xs->kS ys->xs.Perm ys->xs=ys
 | [],ys,_,_,p=>(List.nil_perm.mp p).symm ▸ rfl
 |x::xs,[],_,_,p=>absurd p (by intro z;have:=z.length_eq;simp at this)
 |x::xs,y::ys,h,k,p=>by
  obtain⟨h1,h2⟩:=gI.mp h;obtain⟨k1,k2⟩:=gI.mp k;have e:x=y:=by
   rcases ar.mp (p.mem_iff.mp (aC (a:=x) (l:=xs))) with z|z
   ·exact z
   ·rcases ar.mp (p.mem_iff.mpr (aC (a:=y) (l:=ys))) with q|q
    ·exact q.symm
    ·have a:=k1 x z;have b:=HT.lx_asym (h1 y q);rw[a]at b
     cases b
  subst e;rw[uu h2 k2 ((List.perm_cons x).mp p)]
structure LV(m:Int)(h:Ev)(se se':Int)(e:Ev):Prop where
 fr:e.fr=h.to
 c0:se<=e.c
 c1:e.c<se'
 t0:h.t<e.t
 t1:e.t<=10^12
 to0:0<=e.to
 to1:e.to<m
structure News(m:Int)(h:Ev)(n:Nat)(w w':Wk):Prop where
 se:w.se<=w'.se
 ex:∃new,w'.out=w.out++new/\new.length<=n/\(∀e∈new,LV m h w.se w'.se e)/\new.Pairwise (fun a b=>a.c<b.c)
theorem News.none{m:Int}{h:Ev}{n:Nat}{w Z:Wk}(e1:Z.se=w.se)(W:Z.out=w.out):News m h n w Z:=
 {by rw[e1];exact xr _,[],by rw[W,cv],bU _,(fun e Y=>by cases Y),List.Pairwise.nil}
theorem News.trans{m:Int}{h:Ev}{n1 n2:Nat}{w V O:Wk}(a:News m h n1 w V)(b:News m h n2 V O):News m h (n1+n2) w O:=by
 obtain⟨I,x1,e1,g,U,D⟩:=a;obtain⟨s2,M,J,t,W,p2⟩:=b;refine{Int.le_trans I s2,x1++M,by rw[J,e1,jP],by rw[aA];omega,fun e H=>?_,gY.mpr {D,p2,fun a ha b hb=>?_}}
 ·rcases bY.mp H with z|z
  ·obtain⟨f,c0,c1,t0,t1,Z,Y⟩:=U e z;exact{f,c0,by omega,t0,t1,Z,Y}
  ·obtain⟨f,c0,c1,t0,t1,Z,Y⟩:=W e z;exact{f,by omega,c1,t0,t1,Z,Y}
 ·have:=(U a ha).c1;have:=(W b hb).c0;omega
theorem News.le{m:Int}{h:Ev}{n1 n2:Nat}{w Z:Wk}(a:News m h n1 w Z)(l:n1<=n2):News m h n2 w Z:=by
 obtain⟨Y,x1,e1,U,V,W⟩:=a;exact{Y,x1,e1,by omega,V,W}
theorem News.from{m:Int}{h:Ev}{n:Nat}{w0 w Z:Wk}(a:News m h n w Z)(e1:w.se=w0.se)(V:w.out=w0.out):News m h n w0 Z:=by
 obtain⟨Y,x1,f1,U,W,O⟩:=a;rw[e1]at Y W;exact{Y,x1,by rw[f1,V],U,W,O}
theorem rX{h:Ev}{w Z:Wk}{f:Fm}{k:Wk->Int->Except Flt Wk}(e:rck h w f k=.ok Z):∃n,k {w with rk:=w.rk++[f]} n=.ok Z:=by
 unfold rck at e
 split at e
 ·exact{_,e}
 ·cases e
 ·cases e
mutual
theorem HQ{m:Int}{h:Ev}{ds:List Int}:∀(D:Dd) (w Z:Wk),D.toOk m->doD h ds D w=.ok Z->News m h D.size w Z
 |.put x f,w,Z,_,e=>by
  simp only[doD]at e;obtain⟨n,e⟩:=rX e
  cases e;exact News.none rfl rfl
 |.push q f,w,Z,_,e=>by
  simp only[doD]at e;obtain⟨n,e⟩:=rX e;try dsimp only at e
  split at e
  ·cases e
  ·cases e;exact News.none rfl rfl
 |.pull q x o,w,Z,to,e=>by
  simp only[doD]at e;simp only[Dd.toOk]at to
  split at e
  ·exact ((oE o _ _ to e).le (gp _)).from rfl rfl
  ·cases e;exact News.none rfl rfl
 |.draw x f,w,Z,_,e=>by
  simp only[doD]at e;obtain⟨n,e⟩:=rX e;try dsimp only at e
  split at e
  ·cases e
  ·split at e
   ·cases e
   ·cases e;exact News.none rfl rfl
 |.send to sg sp rk a b,w,Z,Y,e=>by
  simp only[doD]at e;simp only[Dd.toOk]at Y;obtain⟨n,e⟩:=rX e;try dsimp only at e
  split at e
  ·cases e
  ·rename_i c
   obtain⟨x,e⟩:=rX e;obtain⟨y,e⟩:=rX e;try dsimp only at e
   split at e
   ·cases e
   ·rename_i c2
    cases e;refine{?_,[_],rfl,aD _,fun q hq=>?_,ib _ _}
    ·show w.se<=w.se+1;omega
    ·rw[aE.mp hq];exact{rfl,xr _,(by show w.se<w.se+1;omega),(by show h.t<h.t+n;omega),(by show h.t+n<=10^12;omega),Y.1,Y.2}
 |.ife f t W,w,Z,to,e=>by
  simp only[doD]at e;simp only[Dd.toOk]at to;obtain⟨n,e⟩:=rX e;try dsimp only at e
  simp only[Dd.size]
  split at e
  ·exact ((oE W _ _ to.2 e).le (by omega)).from rfl rfl
  ·exact ((oE t _ _ to.1 e).le (by omega)).from rfl rfl
 |.fin,w,Z,_,e=>by
  simp only[doD]at e
  cases e;exact News.none rfl rfl
theorem oE{m:Int}{h:Ev}{ds:List Int}:∀(D:Ds) (w Z:Wk),D.toOk m->doS h ds D w=.ok Z->News m h D.size w Z
 |.nil,w,Z,_,e=>by
  simp only[doS]at e
  cases e;exact News.none rfl rfl
 |.cons d r,w,Z,to,e=>by
  simp only[doS]at e;simp only[Ds.toOk]at to;simp only[Ds.size]
  split at e
  ·rename_i w1 e1
   exact (HQ d _ _ to.1 e1).trans (oE r _ _ to.2 e)
  ·cases e
end
structure wV(m:Nat)(e:Ev):Prop where
 to0:0<=e.to
 to1:e.to<m
 wt:Wo e.t
 wa:Wo e.a
 wb:Wo e.b
structure ROk(m:Nat)(r:RS):Prop where
 len:r.sts.length=m
 fall:kS r.pd
 ev:∀e∈r.pd,wV m e
 cn:∀e∈r.pd,e.fr=-1\/∃(i:Nat) (s:Sta),e.fr=(i:Int)/\r.sts[i]?=some s/\e.c<s.se
theorem oF{pd:List Ev}{h:Ev}(f:kS (pd++[h])):kS pd/\∀e∈pd,HT.lexLt h.key e.key=true:=by
 obtain⟨f1,_,Z⟩:=gY.mp f;exact{f1,fun e Y=>Z e Y h (aE.mpr rfl)}
theorem wW{pd:List Ev}{h:Ev}(e:pd.getLast?=some h):pd=pd.dropLast++[h]:=by
 obtain⟨ys,rfl⟩:=List.getLast?_eq_some_iff.mp e;rw[rN]
theorem key_t{a b:Ev}(h:a.t<b.t):HT.lexLt a.key b.key=true:=by
 unfold Ev.key;rw[HT.lexLt_cons,if_neg (by omega)];exact decide_eq_true h
theorem nC{a b:Ev}(h:a.fr≠b.fr\/a.c≠b.c):a.key≠b.key:=fun z=>by
 unfold Ev.key at z;simp only[List.cons.injEq]at z
 rcases h with h|h
 ·exact h z.2.2.1
 ·exact h z.2.2.2.1
theorem lB:∀{xs pd:List Ev},kS pd->(∀x∈xs,∀y∈pd,x.key≠y.key)->xs.Pairwise (fun a b=>a.key≠b.key)->kS (kZ xs pd)
 | [],_,h,_,_=>h
 |x::xs,pd,h,n,p=>by
  obtain⟨Y,p2⟩:=gI.mp p;refine lB (xs:=xs) (lA h fun y hy=>n x aC y hy) (fun z Z y hy=>?_) p2
  rcases ar.mp ((ia x pd).mem_iff.mp hy) with e|e
  ·rw[e];exact fun q=>Y z Z q.symm
  ·exact n z (ah _ Z) y e
structure Did(Ms:List MD)(r:RS)(h:Ev)(M:MD)(s:Sta):Prop where
 pd:r.pd=r.pd.dropLast++[h]
 hM:Ms[h.to.toNat]?=some M
 hs:r.sts[h.to.toNat]?=some s
theorem qP{Ms:List MD}{r:RS}{h:Ev}{M:MD}{s:Sta}(d:Did Ms r h M s){e:Flt}(q:doS h M.ds (jG M.hs h.sg) s.w=.error e):fY Ms r=({r with pd:=r.pd.dropLast,sp:=some (.flt e h)},[]):=by
 have l:r.pd.getLast?=some h:=by
  rw[d.pd,i9]
 unfold fY;rw[l];dsimp only;rw[d.hM,d.hs];dsimp only;rw[q]
theorem tu{Ms:List MD}{r:RS}{h:Ev}{M:MD}{s:Sta}(d:Did Ms r h M s){w:Wk}(q:doS h M.ds (jG M.hs h.sg) s.w=.ok w):fY Ms r=({r.sts.set h.to.toNat ⟨w.bx,w.qu,w.dr,w.se⟩,kZ w.out r.pd.dropLast,some h,if w.en=true then some (.fin h) else none},[{h,wrB M.bs w,wrQ M.qs w,w.out}]):=by
 have l:r.pd.getLast?=some h:=by
  rw[d.pd,i9]
 unfold fY;rw[l];dsimp only;rw[d.hM,d.hs];dsimp only;rw[q]
theorem wX{m:Nat}{Ms:List MD}{r:RS}{h:Ev}{M:MD}{s:Sta}(k:ROk m r)(d:Did Ms r h M s){n:Nat}{w:Wk}(N:News m h n s.w w):(∀x∈w.out,∀y∈r.pd.dropLast,x.key≠y.key)/\w.out.Pairwise (fun a b=>a.key≠b.key)/\(∀x∈w.out,LV m h s.se w.se x):=by
 obtain⟨U,new,e,O,ho,hp⟩:=N;have e:w.out=new:=e;rw[e];have Y:h∈r.pd:=by
  rw[d.pd];exact bj _ (aE.mpr rfl)
 have h0:=(k.ev h Y).to0;refine{fun x hx y hy=>?_,hp.imp fun z=>nC (.inr (by omega)),ho};have o:=ho x hx;have Z:y∈r.pd:=eC _ hy
 rcases k.cn y Z with z|⟨i,s',J,W,I⟩
 ·refine nC (.inl ?_);rw[o.fr,z];omega
 ·by_cases c:y.fr=h.to
  ·refine nC (.inr ?_);have V:h.to.toNat=i:=by omega
   have:=d.hs;rw[V,W]at this
   cases this;have c0:s.se<=x.c:=o.c0;omega
  ·refine nC (.inl ?_);rw[o.fr];exact fun q=>c q.symm
theorem HR{m:Nat}{Ms:List MD}{r:RS}{h:Ev}{M:MD}{s:Sta}(k:ROk m r)(d:Did Ms r h M s){n:Nat}{w:Wk}(q:doS h M.ds (jG M.hs h.sg) s.w=.ok w)(N:News m h n s.w w)(wo:∀e∈w.out,Wo e.a/\Wo e.b):ROk m (fY Ms r).1:=by
 rw[tu d q];obtain⟨n1,n2,n3⟩:=wX k d N;have f:=k.fall;rw[d.pd]at f;obtain⟨f1,I⟩:=oF f;refine{by rw[Jt];exact k.len,lB f1 n1 n2,fun e Y=>?_,fun e Y=>?_}
 ·rcases bY.mp ((d8 _ _).mem_iff.mp Y) with z|z
  ·obtain⟨a,b,c,d',J,O,g'⟩:=n3 e z;have Z:h∈r.pd:=by
    rw[d.pd];exact bj _ (aE.mpr rfl)
   have ht:=(k.ev h Z).wt;have H:(10:Int)^15=1000000000000000:=by decide
   have t:(10:Int)^12=1000000000000:=by decide
   refine{O,g',?_,(wo e z).1,(wo e z).2};unfold Wo at ht |-;omega
  ·exact k.ev e (eC _ z)
 ·have lt:h.to.toNat<r.sts.length:=(aG.mp d.hs).1;have Z:h∈r.pd:=by
   rw[d.pd];exact bj _ (aE.mpr rfl)
  have h0:=(k.ev h Z).to0
  rcases bY.mp ((d8 _ _).mem_iff.mp Y) with z|z
  ·obtain⟨a,b,c,_⟩:=n3 e z;refine .inr {h.to.toNat,_,by omega,fJ lt,c}
  ·rcases k.cn e (eC _ z) with y|⟨i,s',V,W,U⟩
   ·exact .inl y
   ·by_cases c:h.to.toNat=i
    ·subst c;have es:s=s':=dM (d.hs.symm.trans W);rw[<- es]at U;refine .inr {_,_,V,fJ lt,?_};have D:s.se<=w.se:=N.se;show e.c<w.se;omega
    ·exact .inr {i,s',V,by rw[i0 c];exact W,U}
theorem ET{m:Nat}{Ms:List MD}{r:RS}{h:Ev}{M:MD}{s:Sta}(k:ROk m r)(d:Did Ms r h M s){e:Flt}(q:doS h M.ds (jG M.hs h.sg) s.w=.error e):ROk m (fY Ms r).1:=by
 rw[qP d q];have f:=k.fall;rw[d.pd]at f;exact{k.len,(oF f).1,fun e Z=>k.ev e (eC _ Z),fun e Z=>k.cn e (eC _ Z)}
structure Ex where
 l:List aa
 b:Hp
def Ex.In(ex:Ex)(a:aa):Prop:=a∈ex.l\/∃o,ex.b a=some o/\∀xs,o≠.tup xs
instance:Membership Addr Ex:={fun ex a=>ex.In a}
def Ex.add(ex:Ex)(a:aa):Ex:={a::ex.l,ex.b}
theorem Ex.here{ex:Ex}{a:aa}:a∈ex.add a:=.inl aC
theorem Ex.more{ex:Ex}{a b:aa}(h:b∈ex):b∈ex.add a:=h.elim (fun z=>.inl (ah _ z)) .inr
theorem Ex.or{ex:Ex}{a b:aa}(h:b∈ex.add a):b=a\/b∈ex:=h.elim (fun z=>(ar.mp z).elim .inl fun y=>.inr (.inl y)) fun z=>.inr (.inr z)
open Classical in
noncomputable def Hid(ex:Ex)(G:Hp):Hp:=fun a=>if a∈ex then none else G a
section
variable{ex:Ex}{G G':Hp}{a:aa}{o:HO}
theorem fb(e:Hid ex G a=some o):a∉ex:=fun m=>by
 unfold Hid at e;rw[if_pos m]at e
 cases e
theorem dS(n:a∉ex):Hid ex G a=G a:=if_neg n
theorem dD:aV (Hid ex G) G:=fun b o e=>by
 rw[dS (fb e)]at e;exact e
theorem gz(m:a∈ex):Hid ex (upd G a o)=Hid ex G:=by
 funext b
 unfold Hid
 by_cases c:b∈ex
 ·rw[if_pos c,if_pos c]
 ·rw[if_neg c,if_neg c,aO fun z=>c (by rw[z];exact m)]
theorem gv(s:aV G G'):aV (Hid ex G) (Hid ex G'):=fun b o e=>by
 rw[dS (fb e)];exact s _ _ (dD _ _ e)
theorem Ob(s:∀b o,G b=some o->b∉ex->G' b=some o):aV (Hid ex G) (Hid ex G'):=fun b o e=>by
 rw[dS (fb e)];exact s _ _ (dD _ _ e) (fb e)
theorem gA{xs:List V}(nt:∀a∈ex,∃o,G a=some o/\∀xs,o≠.tup xs)(h:G a=some (.tup xs)):Hid ex G a=some (.tup xs):=by
 rw[dS fun m=>by
  obtain⟨o,e,n⟩:=nt a m;rw[e]at h
  cases h;exact n _ rfl]
 exact h
theorem qQ(n:G a=none):Hid (ex.add a) (upd G a o)=Hid ex G:=by
 funext b
 unfold Hid
 by_cases c:b=a
 ·rw[c,if_pos Ex.here]
  by_cases d:a∈ex
  ·rw[if_pos d]
  ·rw[if_neg d,n]
 ·by_cases d:b∈ex
  ·rw[if_pos d,if_pos (Ex.more d)]
  ·rw[if_neg d,if_neg (fun z=>(Ex.or z).elim c d),aO c]
theorem AM:aV (Hid (ex.add a) G) (Hid ex G):=fun b o e=>by
 rw[dS fun m=>fb e (Ex.more m)];exact dD _ _ e
end
abbrev B2(h:Ev):HO:=.tup [.int h.t,.int h.r,.int h.fr,.int h.c]
def RcIn(F:Hp)(v:V)(q:Rec):Prop:=∃(W k wl od:aa) (Y Z vs:List V) (qa:List (Str×aa)),v=.ref W/\F W=some (.tup [.ref k,.int q.h.to,.str q.h.sg,.int q.h.a,.int q.h.b,.ref wl,.ref od])/\F k=some (B2 q.h) /\
 F wl=some (.lst (Y++Z))/\aP (zt F) Y q.wb/\aP (AJ F) Z qa/\gE F qa q.wq/\F od=some (.lst vs)/\aP (hZ F) vs q.out
theorem RcIn.same{F W:Hp}(s:aV F W){v:V}{q:Rec}(h:RcIn F v q):RcIn W v q:=by
 obtain⟨O,k,wl,od,Y,Z,vs,qa,e,h1,h2,I,M,H,D,J,U⟩:=h;exact{O,k,wl,od,Y,Z,vs,qa,e,s _ _ h1,s _ _ h2,s _ _ I,Paired.mono (fun _ _ z=>z.keep fun a xs e=>s _ _ e) M,Paired.mono (fun _ _ z=>z.keep fun a xs e=>s _ _ e) H,D.same s,s _ _ J,Paired.mono (fun _ _ z=>z.same s) U}
def rO:Flt->Str
 |.nought=>"nought"
 |.great=>"great"
 |.full=>"full"
 |.dry=>"dry"
 |.span=>"span"
 |.late=>"late"
def zw(F:Hp)(v:V):Option Ev->Prop
 |none=>v=.non
 |some h=>∃k,v=.ref k/\F k=some (B2 h)
def wY(F:Hp)(v:V):Stp->Prop
 |.fin h=>∃t k,v=.ref t/\F t=some (.tup [.str "end",.ref k])/\F k=some (B2 h)
 |.flt e h=>∃t k,v=.ref t/\F t=some (.tup [.str "fault",.str (rO e),.ref k])/\F k=some (B2 h)
def zx(F:Hp)(v:V):Option Stp->Prop
 |none=>v=.non
 |some s=>wY F v s
def nF(F:Hp)(v:V):End->Prop
 |.empty=>∃t,v=.ref t/\F t=some (.tup [.str "empty"])
 |.cut=>∃t,v=.ref t/\F t=some (.tup [.str "cut"])
 |.stp s=>wY F v s
theorem zw.same{F Z:Hp}(s:aV F Z){v:V}:∀{q:Option Ev},zw F v q->zw Z v q
 |none,h=>h
 |some _,⟨k,e,h⟩=>{k,e,s _ _ h}
theorem wY.same{F Z:Hp}(s:aV F Z){v:V}:∀{q:Stp},wY F v q->wY Z v q
 |.fin _,⟨t,k,e,h1,h2⟩=>{t,k,e,s _ _ h1,s _ _ h2}
 |.flt _ _,⟨t,k,e,h1,h2⟩=>{t,k,e,s _ _ h1,s _ _ h2}
theorem zx.same{F Z:Hp}(s:aV F Z){v:V}:∀{q:Option Stp},zx F v q->zx Z v q
 |none,h=>h
 |some _,h=>wY.same s h
theorem nF.same{F Z:Hp}(s:aV F Z){v:V}:∀{q:End},nF F v q->nF Z v q
 |.empty,⟨t,e,h⟩=>{t,e,s _ _ h}
 |.cut,⟨t,e,h⟩=>{t,e,s _ _ h}
 |.stp _,h=>wY.same s h
def iz(m s p r e:V):List (Str×V):=[("model",m),("states",s),("pending",p),("reached",r),("stopped",e)]
structure CoT(K:ae)(mg:Str->Option af)(CC:aa):Prop where
 cl:Cls K CC
 nM:eI K CC "model"
 nS:eI K CC "states"
 nP:eI K CC "pending"
 nR:eI K CC "reached"
 nE:eI K CC "stopped"
 m:mg "Course"=some (.ref CC)
theorem co_m(m s p r e:V):(iz m s p r e).lookup ("model":Str)=some m:=rfl
theorem HS(m s p r e:V):(iz m s p r e).lookup ("states":Str)=some s:=rfl
theorem HU(m s p r e:V):(iz m s p r e).lookup ("pending":Str)=some p:=rfl
theorem Oc(m s p r e:V):(iz m s p r e).lookup ("reached":Str)=some r:=rfl
theorem Kr(m s p r e:V):(iz m s p r e).lookup ("stopped":Str)=some e:=rfl
theorem wZ(m s p r e:V):(iz m s p r e).length<1000:=by show 5<1000;decide
theorem Od(m s p r e:V):cH "stopped" e (cH "reached" r (cH "pending" p (cH "states" s (cH "model" m []))))=iz m s p r e:=rfl
theorem De(m s p r e Z:V):cH "reached" Z (iz m s p r e)=iz m s p Z e:=rfl
theorem zy(m s p r e Z:V):cH "stopped" Z (iz m s p r e)=iz m s p r Z:=rfl
theorem w5(m s p r e:V){x:Str}(hx:(["model","states","pending","reached","stopped"]:List Str).contains x=false):(iz m s p r e).lookup x=none:=by
 have z:∀k∈(["model","states","pending","reached","stopped"]:List Str),(x==k)=false:=fun k hk=>beq_eq_false_iff_ne.mpr fun e=>by
  rw[e,kA.mpr hk]at hx
  cases hx
 unfold iz;rw[dR (z _ (by simp)),dR (z _ (by simp)),dR (z _ (by simp)),dR (z _ (by simp)),dR (z _ (by simp))];rfl
def vi(CM:aa)(Ms:List MD)(H:Hp)(m:aa):Prop:=∃(dx Z:aa) (fs:List (Str×V)),H m=some (.ins CM dx fs)/\fs.lookup ("machines":Str)=some (.ref Z)/\zv (Ms.length:Int) H Z Ms
theorem vi.same{CM:aa}{Ms:List MD}{H H':Hp}(s:aV H H'){m:aa}(h:vi CM Ms H m):vi CM Ms H' m:=by
 obtain⟨dx,Z,fs,h1,h2,Y⟩:=h;exact{dx,Z,fs,s _ _ h1,h2,Y.same s}
abbrev StA(CS:aa)(F:Hp):aa->Sta->Prop:=fun a s=>jO CS F a s.bx s.qu s.dr s.se
structure iL(CC CS:aa)(Ms:List MD)(Hb:Hp)(ex:Ex)(G:Hp)(co m sl pl:aa)(r:RS):Prop where
 ok:ROk Ms.length r
 sm:∀b o,Hb b=some o->b≠co/\b≠sl/\b≠pl/\G b=some o
 i1:co∈ex
 i2:sl∈ex
 i3:pl∈ex
 n1:co≠sl
 n2:co≠pl
 n3:sl≠pl
 hc:∃dx rv sv,G co=some (.ins CC dx (iz (.ref m) (.ref sl) (.ref pl) rv sv))/\zw (Hid ex G) rv r.re/\zx (Hid ex G) sv r.sp
 hs:∃ss:List aa,G sl=some (.lst (ss.map V.ref))/\aP (StA CS (Hid ex G)) ss r.sts
 hp:∃ps,G pl=some (.lst ps)/\aP (hZ (Hid ex G)) ps r.pd
 wk:∀(i:Nat) (M:MD) (s:Sta),Ms[i]?=some M->r.sts[i]?=some s->qK M.bs M.qs s.w
 nt:∀a∈ex,∃o,G a=some o/\∀xs,o≠.tup xs
theorem jO.same'{CS:aa}{H H':Hp}(s:aV H H'){st:aa}{bx:List (Str×Int)}{qu:List (Str×List Int)}{dr:Nat}{se:Int}(h:jO CS H st bx qu dr se):jO CS H' st bx qu dr se:=by
 obtain⟨dx,bd,qd,qa,h1,h2,Y,Z⟩:=h;exact{dx,bd,qd,qa,s _ _ h1,s _ _ h2,s _ _ Y,Z.same s}
section
variable{CC CS:aa}{Ms:List MD}{Hb G G':Hp}{ex:Ex}{co m sl pl:aa}{r:RS}
theorem iL.same(c:iL CC CS Ms Hb ex G co m sl pl r)(s:aV G G'):iL CC CS Ms Hb ex G' co m sl pl r:=by
 obtain⟨dx,O,sv,h1,h2,M⟩:=c.hc;obtain⟨Y,Z,U⟩:=c.hs;obtain⟨ps,V,W⟩:=c.hp;have f:=gv (ex:=ex) s;exact⟨c.ok,fun b o e=>(c.sm b o e).imp id (yw id (yw id (s _ _))),c.i1,c.i2,c.i3,c.n1,c.n2,c.n3,{dx,O,sv,s _ _ h1,h2.same f,M.same f},{Y,s _ _ Z,Paired.mono (fun _ _ z=>jO.same' f z) U},{ps,s _ _ V,Paired.mono (fun _ _ z=>z.same f) W},c.wk,fun a ha=>by
  obtain⟨o,e,n⟩:=c.nt a ha;exact{o,s _ _ e,n}⟩
theorem iL.more(c:iL CC CS Ms Hb ex G co m sl pl r){a:aa}{o:HO}(n:G a=none)(U:∀xs,o≠.tup xs):iL CC CS Ms Hb (ex.add a) (upd G a o) co m sl pl r:=by
 obtain⟨dx,J,sv,h1,h2,M⟩:=c.hc;obtain⟨V,Z,I⟩:=c.hs;obtain⟨ps,Y,O⟩:=c.hp;refine{c.ok,?_,Ex.more c.i1,Ex.more c.i2,Ex.more c.i3,c.n1,c.n2,c.n3,{dx,J,sv,aS h1 (av h1 n),?_,?_},{V,aS Z (av Z n),?_},{ps,aS Y (av Y n),?_},c.wk,fun b hb=>?_}
 ·exact fun b o e=>(c.sm b o e).imp id (yw id (yw id fun z=>aS z (av z n)))
 ·rw[qQ n];exact h2
 ·rw[qQ n];exact M
 ·rw[qQ n];exact I
 ·rw[qQ n];exact O
 ·rcases Ex.or hb with z|z
  ·rw[z];exact⟨o,ag,U⟩
  ·obtain⟨o',e,W⟩:=c.nt b z;exact{o',aS e (av e n),W}
theorem iL.less{a:aa}(c:iL CC CS Ms Hb (ex.add a) G co m sl pl r)(a1:co≠a)(a2:sl≠a)(a3:pl≠a):iL CC CS Ms Hb ex G co m sl pl r:=by
 obtain⟨dx,O,sv,h1,h2,M⟩:=c.hc;obtain⟨Y,Z,U⟩:=c.hs;obtain⟨ps,V,W⟩:=c.hp;have f:aV (Hid (ex.add a) G) (Hid ex G):=AM;have out:∀{b:aa},b∈ex.add a->b≠a->b∈ex:=fun m n=>(Ex.or m).elim (fun z=>absurd z n) id;exact{c.ok,c.sm,out c.i1 a1,out c.i2 a2,out c.i3 a3,c.n1,c.n2,c.n3,{dx,O,sv,h1,h2.same f,M.same f},{Y,Z,Paired.mono (fun _ _ z=>jO.same' f z) U},{ps,V,Paired.mono (fun _ _ z=>z.same f) W},c.wk,fun b hb=>c.nt b (Ex.more hb)}
theorem iL.upd(c:iL CC CS Ms Hb ex G co m sl pl r){a:aa}{o:HO}(ha:a∈ex)(ab:Hb a=none)(a1:co≠a)(a2:sl≠a)(a3:pl≠a)(V:∀xs,o≠.tup xs):iL CC CS Ms Hb ex (L2.upd G a o) co m sl pl r:=by
 obtain⟨dx,M,sv,h1,h2,O⟩:=c.hc;obtain⟨W,Y,J⟩:=c.hs;obtain⟨ps,I,U⟩:=c.hp;refine{c.ok,?_,c.i1,c.i2,c.i3,c.n1,c.n2,c.n3,{dx,M,sv,aS h1 a1,?_,?_},{W,aS Y a2,?_},{ps,aS I a3,?_},c.wk,fun b hb=>?_}
 ·exact fun b o e=>(c.sm b o e).imp id (yw id (yw id fun z=>aS z (av e ab)))
 ·rw[gz ha];exact h2
 ·rw[gz ha];exact O
 ·rw[gz ha];exact J
 ·rw[gz ha];exact U
 ·by_cases z:b=a
  ·rw[z];exact⟨o,ag,V⟩
  ·obtain⟨o',e,Z⟩:=c.nt b hb;exact{o',aS e z,Z}
end
theorem Paired.snoc_inv{W Y:Type}{R:W->Y->Prop}:∀{ys:List Y} {xs:List W} {y:Y},aP R xs (ys++[y])->∃Z x,xs=Z++[x]/\aP R Z ys/\R x y
 | [],xs,y,p=>by
  cases p with
  |cons a b=>
   cases b;exact{[],_,rfl,.nil,a}
 |z::ys,xs,y,p=>by
  cases p with
  |cons a b=>
   obtain⟨Z,x,e,V,r⟩:=Paired.snoc_inv (ys:=ys) b;exact{_::Z,x,by rw[e];rfl,.cons a V,r}
theorem jT{Y Z:Type}{R:Y->Z->Prop}:∀{xs:List Y} {ys:List Z} {i:Nat} {y:Z},aP R xs ys->ys[i]?=some y->∃x,xs[i]?=some x/\R x y
 |_,_,i,y,.nil,h=>by simp at h
 |_,_,0,y,.cons a b,h=>by
  simp at h;subst h;exact{_,rfl,a}
 |_,_,i+1,y,.cons a b,h=>by
  obtain⟨x,h1,h2⟩:=jT (i:=i) (y:=y) b (by simpa using h);exact{x,by simpa using h1,h2}
theorem Paired.set{Z Y:Type}{R:Z->Y->Prop}:∀{xs:List Z} {ys:List Y},aP R xs ys->∀(i:Nat) {x:Z} {y:Y},R x y->aP R (xs.set i x) (ys.set i y)
 |_,_,.nil,i,x,y,h=>.nil
 |_,_,.cons a b,0,x,y,h=>.cons h b
 |_,_,.cons a b,i+1,x,y,h=>.cons a (Paired.set b i h)
theorem EU{U O:Type}{f:U->O}{xs ys:List O}(p:xs.Perm ys):∀us:List U,us.map f=ys->∃Z:List U,Z.Perm us/\Z.map f=xs:=by
 induction p with
 |nil=>
  intro us e;have:us=[]:=List.map_eq_nil_iff.mp e;subst this;exact{[],iK _,rfl}
 |cons x _ D=>
  intro us e
  cases us with
  |nil=>cases e
  |cons u us=>
   rw[b9]at e;obtain⟨e1,V⟩:=w6 e;obtain⟨Z,M,z⟩:=D us V;exact{u::Z,M.cons u,by rw[b9,z,e1]}
 |swap x y l=>
  intro us e
  match us,e with
  |a::b::r,e=>
   rw[b9,b9]at e;obtain⟨e1,e⟩:=w6 e;obtain⟨V,e3⟩:=w6 e;exact{b::a::r,List.Perm.swap _ _ _,by rw[b9,b9,e1,V,e3]}
 |trans _ _ Y W=>
  intro us e;obtain⟨u1,H,I⟩:=W us e;obtain⟨u2,p2,J⟩:=Y u1 I;exact{u2,p2.trans H,J}
theorem uU{Z Y:Type}{R:Z->Y->Prop}:∀{us:List (Z×Y)},(∀u∈us,R u.1 u.2)->aP R (us.map (·.1)) (us.map (·.2))
 | [],_=>.nil
 |u::us,h=>.cons (h u aC) (uU fun v hv=>h v (ah _ hv))
theorem xa{Z Y:Type}{R:Z->Y->Prop}{xs:List Z}{ys:List Y}(p:aP R xs ys):(xs.zip ys).map (·.1)=xs/\(xs.zip ys).map (·.2)=ys/\∀u∈xs.zip ys,R u.1 u.2:=by
 induction p with
 |nil=>exact{rfl,rfl,fun u hu=>by cases hu}
 |cons a _ W=>
  obtain⟨h1,h2,V⟩:=W;refine{by rw[eZ,b9,h1],by rw[eZ,b9,h2],fun u hu=>?_};rw[eZ]at hu
  rcases ar.mp hu with z|z
  ·rw[z];exact a
  ·exact V u z
theorem B3{G:Hp}{v:V}{e:Ev}(h:hZ G v e):BM G (v,e.key):=by
 obtain⟨t,k,e1,h1,h2⟩:=h;exact{t,k,_,e1,h1,h2}
theorem yy{F:Hp}{us:List (V×Ev)}{es:List Ev}{zs:List (V×List Int)}(hu:∀u∈us,hZ F u.1 u.2)(p:zs.Perm (us.map fun u=>(u.1,u.2.key)))(f:qO zs)(q:(us.map (·.2)).Perm es)(M:kS es):∃ps,zs.map (·.1)=ps/\aP (hZ F) ps es:=by
 obtain⟨Z,U,O⟩:=EU p us rfl;have h:=uU (R:=hZ F) (us:=Z) fun u Y=>hu u (U.mem_iff.mp Y);have W:kS (Z.map (·.2)):=by
  rw[<- O]at f;have J:=iQ.mp f;exact iQ.mpr J
 rw[uu W M ((U.map _).trans q)]at h;refine{Z.map (·.1),?_,h};rw[<- O,dI];rfl
theorem Dh{F G:Hp}(s:aV F G){pl:aa}{v:V}{ps:List V}{pd:List Ev}{e:Ev}{Q:VK}{E:XK}(hp:G pl=some (.lst ps))(J:aP (hZ F) ps pd)(M:kS pd)(hv:hZ F v e)(nw:∀y∈pd,e.key≠y.key)(len:pd.length<=10000000)
  (k:∀Z,aP (hZ F) Z (kD e pd)->Q .non (upd G pl (.lst Z))):AL [.ref pl,v] G Q E:=by
 obtain⟨z1,U,H⟩:=xa J;have ln:=aZ J;obtain⟨t,kk,rfl,h1,h2⟩:=id hv;refine{pl,t,(ps.zip pd).map fun u=>(u.1,u.2.key),e.key,rfl,?_,fun z hz=>?_,?_,(B3 hv).imp fun a ⟨k,O,e1,Y,e3⟩=>{k,O,e1,s _ _ Y,s _ _ e3},?_,?_,fun bv p f=>?_}
 ·rw[dI];have:((fun x:V×List Int=>x.1) ∘ fun u:V×Ev=>(u.1,u.2.key))=(fun u:V×Ev=>u.1):=rfl;rw[this,z1];exact hp
 ·obtain⟨u,hu,rfl⟩:=cB.mp hz;obtain⟨a,k,O,e1,Y,e3⟩:=B3 (H u hu);exact{a,k,O,e1,s _ _ Y,s _ _ e3}
 ·refine iQ.mpr ?_;have I:=M;rw[<- U]at I;exact iQ.mp I
 ·intro m;obtain⟨x,hx,ex⟩:=cB.mp m;obtain⟨u,hu,rfl⟩:=cB.mp hx;refine nw u.2 ?_ ex.symm;rw[<- U];exact jk hu
 ·rw[ao,qJ];omega
 ·have hA:∀u∈(V.ref t,e)::ps.zip pd,hZ F u.1 u.2:=fun u hu=>by
   rcases ar.mp hu with z|z
   ·rw[z];exact hv
   ·exact H u z
  have D:(((V.ref t,e)::ps.zip pd).map (·.2)).Perm (kD e pd):=by
   rw[b9,U];exact (ia e pd).symm
  obtain⟨Z,g,W⟩:=yy hA p f D (lA M nw);rw[g];exact k Z W
section
variable{P:aN}{w:bL}{K:ae}{mg:Str->Option af}{base:cz}{f:aa}{fd:bR}
theorem HV:bM ["self"] ["self"] (aM oW):={}
theorem oG(F:Fun K "word" "Great.word" oW f fd):qB P w K mg base CX0 1 f fd ["self"] (qN "great"):=by
 refine F.okH HV (fun vs H Q E h=>?_) (fun Z A outer s H vs Q E h=>?_)
 ·obtain⟨a,rfl,_⟩:=h;rfl
 obtain⟨a,rfl,q⟩:=h;exact{_,ay (bN cb),q}
theorem Ks:bM ["self"] ["self"] (aM qC):={}
theorem qR(F:Fun K "word" "Full.word" qC f fd):qB P w K mg base CX0 1 f fd ["self"] (qN "full"):=by
 refine F.okH Ks (fun vs H Q E h=>?_) (fun Z A outer s H vs Q E h=>?_)
 ·obtain⟨a,rfl,_⟩:=h;rfl
 obtain⟨a,rfl,q⟩:=h;exact{_,ay (bN cb),q}
theorem Oe:bM ["self"] ["self"] (aM rW):={}
theorem tD(F:Fun K "word" "Dry.word" rW f fd):qB P w K mg base CX0 1 f fd ["self"] (qN "dry"):=by
 refine F.okH Oe (fun vs H Q E h=>?_) (fun Z A outer s H vs Q E h=>?_)
 ·obtain⟨a,rfl,_⟩:=h;rfl
 obtain⟨a,rfl,q⟩:=h;exact{_,ay (bN cb),q}
theorem Kt:bM ["self"] ["self"] (aM qD):={}
theorem qS(F:Fun K "word" "Span.word" qD f fd):qB P w K mg base CX0 1 f fd ["self"] (qN "span"):=by
 refine F.okH Kt (fun vs H Q E h=>?_) (fun Z A outer s H vs Q E h=>?_)
 ·obtain⟨a,rfl,_⟩:=h;rfl
 obtain⟨a,rfl,q⟩:=h;exact{_,ay (bN cb),q}
theorem Ku:bM ["self"] ["self"] (aM qE):={}
theorem qT(F:Fun K "word" "Late.word" qE f fd):qB P w K mg base CX0 1 f fd ["self"] (qN "late"):=by
 refine F.okH Ku (fun vs H Q E h=>?_) (fun Z A outer s H vs Q E h=>?_)
 ·obtain⟨a,rfl,_⟩:=h;rfl
 obtain⟨a,rfl,q⟩:=h;exact{_,ay (bN cb),q}
end
def pP{Z:Type}(a b c d e f:Z):Flt->Z
 |.nought=>a
 |.great=>b
 |.full=>c
 |.dry=>d
 |.span=>e
 |.late=>f
theorem gE.hid{ex:Ex}{G:Hp}{qa:List (Str×aa)}{qu:List (Str×List Int)}(n:∀a∈qa.map (·.2),a∉ex)(q:gE G qa qu):gE (Hid ex G) qa qu:=
 gE.keep (L:={0,0,0,0,0,0,0,0,0,0,.non,.non,qa}) (fun a u e m=>by rw[dS (n a m)];exact e) (fun _ h=>h) q
theorem hZ.hid{ex:Ex}{G:Hp}(nt:∀a∈ex,∃o,G a=some o/\∀xs,o≠.tup xs){v:V}{e:Ev}(h:hZ G v e):hZ (Hid ex G) v e:=by
 obtain⟨t,k,e1,h1,h2⟩:=h;exact{t,k,e1,gA nt h1,gA nt h2}
theorem Dg.sta{CD CS:aa}{bs qs:List Str}{H0 G:Hp}{L:Lay}{h:Ev}{ds:List Int}{w:Wk}(g:Dg CD CS bs qs H0 G L h ds w){ex:Ex}(n:∀a∈L.all,a∉ex):jO CS (Hid ex G) L.st w.bx w.qu w.dr w.se:=
 {L.dxs,L.bd,L.qd,L.qa,by rw[dS (n _ LI)];exact g.hst,by rw[dS (n _ LJ)];exact g.hb,by rw[dS (n _ in_qd)];exact g.hq,g.hl.hid fun a m=>n a (in_l m)}
theorem HH.told{CD CS:aa}{bs qs:List Str}{H G:Hp}{L:Lay}{h:Ev}{ds:List Int}{w:Wk}{t M wl:aa}{U W:List V}{qa:List (Str×aa)}(d:HH CD CS bs qs H G L h ds w t M wl U W qa){ex:Ex}(nt:∀a∈ex,∃o,H a=some o/\∀xs,o≠.tup xs) :
  ∃vs,G L.od=some (.lst vs)/\L.od∉ex/\aP (hZ (Hid ex G)) vs w.out/\RcIn (Hid ex G) (.ref M) {h,wrB bs w,wrQ qs w,w.out}:=by
 have Z:∀a∈ex,∃o,G a=some o/\∀xs,o≠.tup xs:=fun a ha=>by
  obtain⟨o,e,n⟩:=nt a ha;exact{o,d.sm _ _ e,n}
 have nx:∀{a},H a=none->a∉ex:=fun {a} z m=>by
  obtain⟨o,e,_⟩:=nt a m;rw[z]at e
  cases e
 obtain⟨H0,D,g⟩:=d.dg;obtain⟨vs,J,I⟩:=g.ho;obtain⟨k,h1,h2⟩:=d.hrc;have O:L.od∉ex:=nx (none_of D (g.fr _ LK));have Y:=Paired.mono (fun _ _ z=>hZ.hid Z z) I;refine{vs,J,O,Y,M,k,wl,L.od,U,W,vs,qa,rfl,gA Z h1,gA Z (d.sm _ _ h2),?_,Paired.mono (fun _ _ z=>z.keep fun a xs e=>gA Z e) d.wr.b,Paired.mono (fun _ _ z=>z.keep fun a xs e=>gA Z e) d.wr.q,d.wr.l.hid fun a m=>nx (d.wr.fr a (ah _ m)),?_,Y}
 ·rw[dS (nx (d.wr.fr _ aC))];exact d.wr.hl
 ·rw[dS O];exact J
theorem qK.clean{bs qs:List Str}{w:Wk}(k:qK bs qs w):qK bs qs (w0 w.bx w.qu w.dr w.se):=
 {k.kb,k.kq,k.nb,k.nq,k.wb,k.wq,ic,(fun x hx=>by cases hx),ic,(fun x hx=>by cases hx),(fun x hx=>by cases hx),k.fw}
theorem Di{P:Ds->Prop}{hs:List (Str×Ds)}(h:∀q∈hs,P q.2)(n:P .nil)(sg:Str):P (jG hs sg):=by
 unfold jG
 cases e:hs.lookup sg with
 |none=>exact n
 |some d=>exact h _ (qL e)
def ToldR(F:Hp)(v:V):List Rec->Prop
 | []=>v=.non
 |q::_=>RcIn F v q
def Oth(ex:Ex)(co sl pl:aa)(H G:Hp):Prop:=∀a,a≠co->a≠sl->a≠pl->∀o,H a=some o->G a=some o
theorem B4{Hb H G:Hp}{co sl pl:aa}(s:∀b o,Hb b=some o->b≠co/\b≠sl/\b≠pl/\H b=some o)(ot:∀a,a≠co->a≠sl->a≠pl->∀o,H a=some o->G a=some o):∀b o,Hb b=some o->b≠co/\b≠sl/\b≠pl/\G b=some o:=fun b o e=>by
 obtain⟨n1,n2,n3,z⟩:=s b o e;exact{n1,n2,n3,ot b n1 n2 n3 o z}
theorem bA.some{ι:Type}{P:aN}{w:bL}{K:ae}{mg:Str->Option af}{base:cz}{CX:CXT}{k:Nat}{f:aa}{fd:bR}{ps:List Str}{sp:ι->Sp}(F:∀i,bA P w K mg base CX k f fd ps (sp i)) :
  bA P w K mg base CX k f fd ps (fun vs H Q E=>∃i,sp i vs H Q E):=
 {fun vs H Q E ⟨i,q⟩=>(F i).len vs H Q E q,fun A outer s H args us vs Q E hr Z hb hv ⟨i,hs⟩=>(F i).run A outer s H args us vs Q E hr Z hb hv hs}
theorem Kv{X:Cx}{o value:cN}{f:Str}{ta tv:TE}{pos pos':Pos}(K:ae)(Z:X.K=K)(ha:PE X o ta)(hv:PE X value tv)(hs:uD value (some (.Attribute o f pos')) pos.line X.env=pure false):PS X (.Assign [.Attribute o f pos'] value pos) (sFld K ta tv f):=by
 rw[<- Z];exact eJ ha hv hs
theorem tE{σ:St}{H:Hp}{Q:List V->Hp->Prop}(h:Q [] H):Bm σ H Q:=h
theorem B5{D:m5}{σ:St}{H:Hp}(h:D.nx σ H):j6 D σ H:=h
theorem EV(xs:List Ev)(x:Ev)(pd:List Ev):kZ (xs++[x]) pd=kD x (kZ xs pd):=by
 unfold kZ;rw[uR];rfl
section
variable{P:aN}{w:bL}{K:ae}{mg:Str->Option af}{base:cz}{f fPu fDn CC CM CS CD CF:aa}{fd fdPu fdDn:bR}{cf fW:Flt->aa}{fdW:Flt->bR}
seal PS PSs PE PA PT PW PI PG PGs PC
inductive LW(CC CS:aa)(vs:List V)(H:Hp)(Q:VK)(_e:XK):Prop where
 |mk(Ms:List MD)(Hb:Hp)(ex:Ex)(co m sl pl:aa)(r:RS)(left:Int)(_:vs=[.ref co,.int left])(_:iL CC CS Ms Hb ex H co m sl pl r)(_:∀v G,aV H G->((gT r left=none/\v=.non)\/∃e,gT r left=some e/\nF (Hid ex G) v e)->Q v G):LW CC CS vs H Q _e
def Of(CC CS:aa):Sp:=fun vs H Q Z=>LW CC CS vs H Q Z
theorem scEd:bM ["self","left"] ["self","left"] (aM fH):={}
theorem yz(M:Mt K CC "ending_due" "Course.ending_due" fH ["self","left"] f fd)(T:CoT K mg CC):bA P w K mg base CX0 1 f fd ["self","left"] (Of CC CS):=by
 refine M.F.ok scEd (fun vs H Q E h=>?_) (fun O A outer s H vs Q E hr h=>?_)
 ·obtain⟨Ms,Hb,ex,co,m,sl,pl,r,left,rfl,_⟩:=h;rfl
 obtain⟨Ms,Hb,ex,co,m,sl,pl,r,left,rfl,c,q⟩:=h;refine⟨_,ai (cK (oK (vk (cW (pv 0) rfl))) (ay (bN (cW (pv 0) rfl))) bS)
  (ai (cK (yK (vX (cW (pv 0) rfl) (fun _=>rfl))) (ay (bN (eD (au cb aj)))) bS)
  (ai (cK (bO op_le (pv 1) aw (bX _)) (ay (bN (eD (au cb aj)))) bS)
  (ay (bN tQ)))),?_⟩
 obtain⟨dx,D,sv,h1,h2,Z⟩:=c.hc;obtain⟨ps,I,J⟩:=c.hp;have V:=aZ J;have Y:∀{G:Hp},aV H G->∀a∈ex,∃o,G a=some o/\∀xs,o≠.tup xs:=fun s a ha=>by
  obtain⟨o,e,n⟩:=c.nt a ha;exact{o,s _ _ e,n}
 cases hsp:r.sp with
 |some st=>
  rw[hsp]at Z;have U:gT r left=some (.stp st):=by
   unfold gT;rw[hsp]
  obtain⟨t,rfl⟩:∃t,sv=.ref t:=by
   cases st with
   |fin h=>
    obtain⟨t,_,e,_⟩:=Z;exact⟨t,e⟩
   |flt e h=>
    obtain⟨t,_,e,_⟩:=Z;exact⟨t,e⟩
  refine{_,rfl,co,CC,dx,_,_,rfl,h1,T.cl,T.nE,Kr _ _ _ _ _,_,rfl,iH ?_};exact{_,rfl,co,CC,dx,_,_,rfl,h1,T.cl,T.nE,Kr _ _ _ _ _,q _ _ (aV.refl _) (.inr {_,U,Z})}
 |none=>
  rw[hsp]at Z;have Z:sv=.non:=Z;subst Z;refine{_,rfl,co,CC,dx,_,_,rfl,h1,T.cl,T.nE,Kr _ _ _ _ _,_,rfl,gb ?_};refine{_,rfl,co,CC,dx,_,_,rfl,h1,T.cl,T.nP,HU _ _ _ _ _,_,.inl {_,SqL.of I,rfl},?_}
  cases ps with
  |nil=>
   have W:r.pd=[]:=xb V.symm;refine iH {BZ,fun t ht=>q _ _ (aF ht _) (.inr {.empty,?_,t,rfl,gA (Y (aF ht _)) ag})};unfold gT;rw[hsp,W];rfl
  |cons x xs=>
   have W:r.pd.isEmpty=false:=by
    cases z:r.pd with
    |nil=>
     rw[z]at V
     cases V
    |cons _ _=>rfl
   refine gb ?_;refine{_,rfl,_,_,rfl,rfl,_,rfl,gi (fun cc=>?_) (fun cc=>?_)}
   ·have cc:=of_decide_eq_true cc;refine{BZ,fun t ht=>q _ _ (aF ht _) (.inr {.cut,?_,t,rfl,gA (Y (aF ht _)) ag})};unfold gT;rw[hsp];dsimp only;rw[W,if_neg (by decide),if_pos cc]
   ·have cc:¬left<=0:=fun z=>cc (decide_eq_true z);refine q _ _ (aV.refl _) (.inl {?_,rfl});unfold gT;rw[hsp];dsimp only;rw[W,if_neg (by decide),if_neg cc]
inductive HW(CC CM CS:aa)(vs:List V)(H:Hp)(Q:VK)(_e:XK):Prop where
 |mk(Ms:List MD)(Hb:Hp)(ex:Ex)(co m sl pl:aa)(r:RS)(_:vs=[.ref co])(_:vi CM Ms Hb m)(_:iL CC CS Ms Hb ex H co m sl pl r)(_:r.sp=none)(_:r.pd≠[])(_:r.pd.length<=9000000)(_:∀v G,iL CC CS Ms Hb ex G co m sl pl (fY Ms r).1->aV (Hid ex H) (Hid ex G)->Oth ex co sl pl H G->ToldR (Hid ex G) v (fY Ms r).2->Q v G):HW CC CM CS vs H Q _e
def LX(CC CM CS:aa):Sp:=fun vs H Q Z=>HW CC CM CS vs H Q Z
abbrev nD1:List Str:=["self","happening","at","told","fault","sent"]
theorem EW:bM nD1 ["self"] (aM iw):={}
theorem Og{n j:Nat}(h:j<n):ixN n (j:Int)=some j:=by
 unfold ixN;rw[if_pos (by omega),if_pos (by omega)];simp
theorem xc(M:Mt K CC "do_one" "Course.do_one" iw ["self"] f fd)(ky:Df K mg "put_in" qF ["falling","thing"] fPu fdPu)(fe:bA P w K mg base CX0 2 fPu fdPu ["falling","thing"] AL)
  (kc:Df K mg "done" zi ["model","state","happening"] fDn fdDn) (hf:∀bq:List Str×List Str,bA P w K mg base (CXo P w) 37 fDn fdDn ["model","state","happening"] (HI cf CM CD CS bq.1 bq.2 5))
  (mW:∀e,xw K (cf e) "word" (fW e)) (bW:∀e,Binds K (fdW e) ["self"] []) (GW:∀e,qB P w K mg base CX0 1 (fW e) (fdW e) ["self"] (qN (rO e))) (XN:∀e,xP K (cf e)) (mF:mg "Fault"=some (.ref CF)) (hx:∀e,cm K (.ref (cf e)) (.ref CF)=some true) (T:CoT K mg CC) (TM:MdT K mg CM CS) :
  bA P w K mg base CX0 38 f fd ["self"] (LX CC CM CS):=by
 have GD:=bA.some hf;refine M.F.ok EW (fun vs H Q E h=>?_) (fun el A outer s H vs Q E hr h=>?_)
 ·obtain⟨Ms,Hb,ex,co,m,sl,pl,r,rfl,_⟩:=h;rfl
 obtain⟨Ms,Hb,ex,co,m,sl,pl,r,rfl,hM,c,hg,eL,em,k⟩:=h;have r1:cQ 1 _:=hr.mono (by decide);have r2:cQ 2 _:=hr.mono (by decide);obtain⟨dx,rv,sv,hX,eH,la⟩:=c.hc;obtain⟨ss,hn,ka⟩:=c.hs;obtain⟨ps,hS,il⟩:=c.hp
 -- the last one
 obtain⟨h,hl⟩:∃h,r.pd.getLast?=some h:=by
  cases e:r.pd.getLast? with
  |none=>exact absurd (zz.mp e) eL
  |some h=>exact⟨h,rfl⟩
 have lj:=wW hl;have hA:h∈r.pd:=by
  rw[lj];exact bj _ (aE.mpr rfl)
 have eo:=c.ok.ev h hA;obtain⟨j,hj⟩:∃j:Nat,h.to=(j:Int):={h.to.toNat,by have:=eo.to0;omega};have jl:j<Ms.length:=by have:=eo.to1;omega
 have ej:h.to.toNat=j:=by omega
 have js:j<r.sts.length:=by rw[c.ok.len];exact jl
 obtain⟨Mm,lk⟩:∃M,Ms[j]?=some M:={_,aI jl};obtain⟨st0,mc⟩:∃s,r.sts[j]?=some s:={_,aI js};have d:Did Ms r h Mm st0:={lj,by rw[ej];exact lk,by rw[ej];exact mc};obtain⟨Z,v,ih,lc,hv⟩:∃Z v,ps=Z++[v]/\aP (hZ (Hid ex H)) Z r.pd.dropLast/\hZ (Hid ex H) v h:=by
  rw[lj]at il;exact Paired.snoc_inv il
 obtain⟨th,Y,rfl,fx,io⟩:=id hv
 -- the bf and the machine
 obtain⟨ft,ml,fs,hm,gd,xs,hB,fy⟩:=id hM;obtain⟨mv,fz,hN⟩:=jT fy lk;obtain⟨sta,lf,ge⟩:=jT ka mc;have dk:=Di (P:=fun D=>D.toOk (Ms.length:Int)/\D.deep<=4/\D.size<=3*ddz 4) hN.hk {by simp only[Ds.toOk],by simp only[Ds.deep];omega,by simp only[Ds.size];omega} h.sg;have dz:3*ddz 4<=5000:=by decide
 refine⟨_,ai (bh (i:=1) EW.nd rfl (Or.inl rfl) (Bu bV zX zY Nj (cW (pv 0) rfl)))
  (ai (bh (i:=2) EW.nd rfl (Or.inl rfl) (bP cF (pv 1) aw (fun _ _=>rfl)))
  (ai (JO (fun C σ G=>∃(e:Flt) (u3 u4 u5:Option V),C=cf e/\σ=[some (.ref co),some (.ref th),some (.int h.to),u3,u4,u5]/\doS h Mm.ds (jG Mm.hs h.sg) st0.w=.error e/\aV (upd H pl (.lst Z)) G)
    (fun pins=>ay (bh (i:=3) EW.nd rfl (Or.inl rfl) (Aj GD hr (by rfl) kc.m kc.F.kp kc.b rT (au (eg K (by rfl) (pv 0) (by rfl)) (au (bP (wU K (by rfl)) (eg K (by rfl) (pv 0) (by rfl)) (pv 2) (fun _ _=>rfl)) (au (pv 1) aj))))))
    (NA 4 (by rfl) mF EW.nd rfl rfl (fun ea=>ai (Kv K (by rfl) (pv 0) (eD (au cb (au (EG (ι:=Flt) (C:=cf) (fm:=fW) (fd:=fdW) (sp:=fun e=>qN (rO e)) (pv 4) XN mW GW ⟨rfl,r1.dp,r1.un⟩ bW bC) (au (bP (pB K (by rfl)) (pv 1) aw (fun _ _=>rfl)) aj)))) rfl) (ay (bN tQ))) y7)
    bS)
  (ai (qc (bP cF (pv 3) aw (fun _ _=>rfl)) (tR (cW (pv 0) rfl) (pv 2) nV))
  (ai (eJ (pv 0) (bP cF (pv 1) aw (fun _ _=>rfl)) rfl)
  (ai (jo cO rfl (iU (bP cF (bP cF (pv 3) aw (fun _ _=>rfl)) aw (fun _ _=>rfl))) (dO (i:=5) EW.nd rfl (Or.inl rfl)) (ay (d9 (aL fe r2 (by rfl) ky.m ky.F.kp ky.b .nil bC (au (cW (pv 0) rfl) (au (pv 5) aj))))))
  (ai (cK (p9 (bP cF (pv 3) aw (fun _ _=>rfl))) (ay (eJ (pv 0) (eD (au cb (au (bP cF (pv 1) aw (fun _ _=>rfl)) aj))) rfl)) bS)
  (ay (bN (bP cF (pv 3) aw (fun _ _=>rfl)))))))))),?_⟩
 subst ih
 -- it is taken out
 refine cg (cL ?_);refine{_,rfl,co,CC,dx,_,_,rfl,hX,T.cl,T.nP,HU _ _ _ _ _,.inl {rfl,_,SqL.of hS},pl,_,.ref th,rfl,rfl,hS,?_,?_}
 ·rw[aA];show (Z++[V.ref th])[Z.length+1-1]?=_;rw[Gh,df (aD _),mH];rfl
 rw[rN];refine aY ?_;dsimp only;have F1:Hid ex (upd H pl (.lst Z))=Hid ex H:=gz c.i3;have mm:upd H pl (.lst Z) co=some (.ins CC dx (iz (.ref m) (.ref sl) (.ref pl) rv sv)):=aS hX c.n2;have md:upd H pl (.lst Z) sl=some (.lst (ss.map V.ref)):=aS hn c.n3;have lz:upd H pl (.lst Z) pl=some (.lst Z):=ag;have mn:∀a∈ex,∃o,upd H pl (.lst Z) a=some o/\∀xs,o≠.tup xs:=fun a ha=>by
  by_cases z:a=pl
  ·rw[z];exact{_,ag,fun xs z=>by cases z}
  ·obtain⟨o,e,n⟩:=c.nt a ha;exact{o,aS e z,n}
 have mq:Oth ex co sl pl H (upd H pl (.lst Z)):=fun a _ _ z o e=>aS e z;revert F1 mm md lz mn mq;generalize upd H pl (.lst Z)=G1;intro F1 mm md lz mn mq;have kw:aV (Hid ex H) G1:=by
  rw[<- F1];exact dD
 have kv:aV Hb G1:=fun b o e=>by
  obtain⟨n1,n2,n3,z⟩:=c.sm b o e;exact mq b n1 n2 n3 o z
 have mt:=kw _ _ fx;refine cg (cL ?_);refine{_,rfl,th,_,_,_,rfl,rfl,SqT.of mt,rfl,?_};refine aY ?_;dsimp only;refine cg ?_;refine{?_,fun C ey W hl ht=>?_}
 ·refine cL ?_;have fk:atI (ss.map V.ref) h.to=some (.ref sta):=by
   rw[hj];exact ij (by rw[cC,lf];rfl)
  refine{_,rfl,co,CC,dx,_,_,rfl,mm,T.cl,T.nM,co_m _ _ _ _ _,_,rfl,co,CC,dx,_,_,rfl,mm,T.cl,T.nS,HS _ _ _ _ _,_,rfl,sl,_,_,_,rfl,rfl,SqL.of md,fk,_,rfl,?_};refine{(Mm.bs,Mm.qs),m,ft,ml,sta,fs,xs,.ref th,mv,h,Mm.ds,Mm.hs,st0.bx,st0.qu,st0.dr,st0.se,rfl,kv _ _ hm,gd,kv _ _ hB,hv.same kw,by rw[hj];exact ij fz,(hN.same kv).ma,jO.same' kw ge,c.wk j Mm st0 lk mc,eo.wt,eo.wa,eo.wb,by omega,by omega,?_}
  cases ew:doS h Mm.ds (jG Mm.hs h.sg) (w0 st0.bx st0.qu st0.dr st0.se) with
  |error e=>
   exact fun W s6=>{_,rfl,e,_,_,_,rfl,rfl,ew,s6}
  |ok I=>
   intro W L t6 rc wl ei ez qa Dn;have ln:doS h Mm.ds (jG Mm.hs h.sg) st0.w=.ok I:=ew;rw[tu d ln]at k;have N:=oE (m:=(Ms.length:Int)) _ _ _ dk.1 ln;obtain⟨hK,hO,et⟩:=wX c.ok d N;obtain⟨H0,s0,g⟩:=Dn.dg;have mu:=HR c.ok d ln N g.ok.wo;rw[tu d ln]at mu;obtain⟨vs,hD,hY,hI,kG⟩:=Dn.told mn;have t:=Dn.sm;obtain⟨kk,hrc,_⟩:=Dn.hrc;have nx:∀a∈L.all,a∉ex:=fun a ha z=>by
    obtain⟨o,e,_⟩:=mn a z;have:=g.fr a ha;rw[s0 _ _ e]at this
    cases this
   have gl:=g.sta nx;have f6:aV (Hid ex H) (Hid ex W):=by
    rw[<- F1];exact gv t
   have ek:aV (Hid ex W) W:=dD;have ix:=t _ _ mm;have hH:=t _ _ md;have hG:=t _ _ lz;have fa:Oth ex co sl pl H W:=fun a n1 n2 n3 o e=>t _ _ (mq a n1 n2 n3 o e);have ly:∀a∈ex,∃o,W a=some o/\∀xs,o≠.tup xs:=fun a ha=>by
    obtain⟨o,e,n⟩:=mn a ha;exact{o,t _ _ e,n}
   refine aY ?_;refine B5 ?_;dsimp only;refine B5 ?_;dsimp only
   -- the new state
   have gq:j<(ss.map V.ref).length:=(aG.mp (show (ss.map V.ref)[j]?=some (.ref sta) by rw[cC,lf];rfl)).1;refine cg (cL ?_);refine{_,rfl,t6,_,_,_,rfl,rfl,SqT.of Dn.ht,rfl,?_};refine{_,rfl,co,CC,dx,_,_,rfl,ix,T.cl,T.nS,HS _ _ _ _ _,_,rfl,sl,_,_,j,rfl,rfl,hH,by rw[hj];exact Og gq,?_}
   -- its key is reached
   have hT:upd W sl (.lst ((ss.map V.ref).set j (.ref L.st))) th=some (.tup [.ref Y,.int h.to,.str h.sg,.int h.a,.int h.b]):=aS (t _ _ mt) (pG (t _ _ mt) hH (by intro z;cases z));have hz:upd W sl (.lst ((ss.map V.ref).set j (.ref L.st))) co=some (.ins CC dx (iz (.ref m) (.ref sl) (.ref pl) rv sv)):=aS ix c.n1;refine cg ?_;refine{_,rfl,th,_,_,_,rfl,rfl,SqT.of hT,rfl,_,rfl,co,CC,dx,_,rfl,hz,T.cl,T.nR,wZ _ _ _ _ _,?_};rw[De];have F8:Hid ex (upd (upd W sl (.lst ((ss.map V.ref).set j (.ref L.st)))) co (.ins CC dx (iz (.ref m) (.ref sl) (.ref pl) (.ref Y) sv)))=Hid ex W:=by
    rw[gz c.i1,gz c.i2]
   have lp:upd (upd W sl (.lst ((ss.map V.ref).set j (.ref L.st)))) co (.ins CC dx (iz (.ref m) (.ref sl) (.ref pl) (.ref Y) sv)) co=some (.ins CC dx (iz (.ref m) (.ref sl) (.ref pl) (.ref Y) sv)):=ag;have lx:upd (upd W sl (.lst ((ss.map V.ref).set j (.ref L.st)))) co (.ins CC dx (iz (.ref m) (.ref sl) (.ref pl) (.ref Y) sv)) sl=some (.lst ((ss.map V.ref).set j (.ref L.st))):=aS ag c.n1.symm;have kB:upd (upd W sl (.lst ((ss.map V.ref).set j (.ref L.st)))) co (.ins CC dx (iz (.ref m) (.ref sl) (.ref pl) (.ref Y) sv)) pl=some (.lst Z):=aS (aS hG c.n3.symm) c.n2.symm;have kt:Oth ex co sl pl H (upd (upd W sl (.lst ((ss.map V.ref).set j (.ref L.st)))) co (.ins CC dx (iz (.ref m) (.ref sl) (.ref pl) (.ref Y) sv))):=fun a n1 n2 n3 o e=>aS (aS (fa a n1 n2 n3 o e) n2) n1;have ki:∀a∈ex,∃o,upd (upd W sl (.lst ((ss.map V.ref).set j (.ref L.st)))) co (.ins CC dx (iz (.ref m) (.ref sl) (.ref pl) (.ref Y) sv)) a=some o/\∀xs,o≠.tup xs:=fun a ha=>by
    by_cases z:a=co
    ·rw[z];exact{_,ag,fun xs z=>by cases z}
    ·by_cases y:a=sl
     ·rw[y];exact{_,lx,fun xs z=>by cases z}
     ·obtain⟨o,e,n⟩:=ly a ha;exact{o,aS (aS e y) z,n}
   revert F8 lp lx kB kt ki;generalize upd (upd W sl (.lst ((ss.map V.ref).set j (.ref L.st)))) co (.ins CC dx (iz (.ref m) (.ref sl) (.ref pl) (.ref Y) sv))=G8;intro F8 lp lx kB kt ki;have mf:aV (Hid ex W) G8:=by
    rw[<- F8];exact dD
   have ls:Hid ex W t6=some (.tup [.ref L.st,.ref rc,.bl I.en]):=gA ly Dn.ht;have hQ:Hid ex W rc=_:=gA ly hrc;have kI:Hid ex W L.od=some (.lst vs):=by
    rw[dS hY];exact hD
   have hR:Hid ex W th=_:=gA ly (t _ _ mt);have lM:Hid ex W Y=some (B2 h):=f6 _ _ io
   -- what was sent is put in
   have gr:kS r.pd.dropLast:=by
    have z:=c.ok.fall;rw[lj]at z;exact (oF z).1
   have hL:L.od≠pl:=fun z=>hY (by rw[z];exact c.i3);refine cg ?_;refine⟨_,rfl,t6,_,_,_,rfl,rfl,SqT.of (mf _ _ ls),rfl,rc,_,_,_,rfl,rfl,SqT.of (mf _ _ hQ),rfl,L.od,rfl,{_,SqL.of (mf _ _ kI)},j7 (K:=K) (a:=L.od) (xs:=vs) (fun i σ G'=>∃(u4 u:Option V) (ps:List V),σ=[some (.ref co),some (.ref th),some (.int h.to),some (.ref t6),u4,u]/\G' pl=some (.lst ps)/\aP (hZ (Hid ex W)) ps (kZ (I.out.take i) r.pd.dropLast)/\But pl G8 G')
    {_,_,Z,rfl,kB,by rw[jQ];exact Paired.mono (fun _ _ z=>z.same f6) lc,But.refl _ _} ?_ ?_ ?_⟩
   ·rintro i σ G' _ ⟨_,_,_,rfl,_,_,b⟩;exact SqL.of (b _ _ (mf _ _ kI) hL)
   ·rintro i x σ G' hi ⟨u4,u,ps,rfl,g1,g2,b⟩;obtain⟨e,he,gM⟩:=oB hI hi;have gt:aV (Hid ex W) G':=fun a o z=>b _ _ (mf _ _ z) fun y=>fb z (by rw[y];exact c.i3);have mem:e∈I.out:=cq he;have tk:I.out.take (i+1)=I.out.take i++[e]:=by
     rw[eR,he];rfl
    have fo:∀x∈I.out.take i,x.key≠e.key:=fun x hx=>by
     have pw:=hO;rw[<- rg (i+1) I.out,tk]at pw;exact (gY.mp (gY.mp pw).1).2.2 x hx e (aE.mpr rfl)
    have fall:kS (kZ (I.out.take i) r.pd.dropLast):=lB gr (fun x hx=>hK x (Dj hx)) (hO.sublist (nU _ _));refine{_,rfl,co,CC,dx,_,_,rfl,b _ _ lp c.n2,T.cl,T.nP,HU _ _ _ _ _,_,rfl,?_};refine tE ?_;show AL [V.ref pl,x] G' _ _;refine Dh (F:=Hid ex W) gt g1 g2 fall gM (fun y hy=>?_) ?_ fun hE ii=>?_
    ·rcases bY.mp ((d8 _ _).mem_iff.mp hy) with z|z
     ·exact fun q=>fo y z q.symm
     ·exact hK e mem y z
    ·rw[(d8 _ _).length_eq,aA,kQ,c9];obtain⟨new,e1,e2,_⟩:=N.ex;have e1:I.out=new:=e1;have:=dk.2.2;rw[e1];omega
    ·refine{_,_,hE,rfl,ag,?_,b.trans (But.upd pl _ _)};rw[tk,EV];exact ii
   rintro σ G9 ⟨u4,u,er,rfl,g1,g2,b⟩;have hC:vs.length=I.out.length:=aZ hI;rw[hC,dZ]at g2;have F9:aV (Hid ex W) (Hid ex G9):=by
    rw[<- F8];exact Ob fun a o e n=>b _ _ e fun y=>n (by rw[y];exact c.i3)
   have kz:aV (Hid ex W) G9:=F9.trans dD;have iF:=b _ _ lp c.n2;have kn:=b _ _ lx c.n3;have lw:Oth ex co sl pl H G9:=fun a n1 n2 n3 o e=>b _ _ (kt a n1 n2 n3 o e) n3;have jp:∀a∈ex,∃o,G9 a=some o/\∀xs,o≠.tup xs:=fun a ha=>by
    by_cases z:a=pl
    ·rw[z];exact{_,g1,fun xs z=>by cases z}
    ·obtain⟨o,e,n⟩:=ki a ha;exact{o,b _ _ e z,n}
   have im:∀(i:Nat) (M:MD) (s:Sta),Ms[i]?=some M->(r.sts.set h.to.toNat ⟨I.bx,I.qu,I.dr,I.se⟩)[i]?=some s->qK M.bs M.qs s.w:=fun i M s hi hs=>by
    rw[ej]at hs
    by_cases z:i=j
    ·rw[z,fJ js]at hs;rw[z,lk]at hi
     cases hs
     cases hi;exact g.ok.clean
    ·rw[i0 (fun y=>z y.symm)]at hs;exact c.wk i M s hi hs
   have hP:∀{F:Hp},aV (Hid ex W) F->aP (StA CS F) (ss.set j L.st) (r.sts.set h.to.toNat ⟨I.bx,I.qu,I.dr,I.se⟩):=fun {F} s=>by
    rw[ej];exact Paired.set (Paired.mono (fun _ _ z=>jO.same' (f6.trans s) z) ka) j (jO.same' s gl)
   have gw:(ss.map V.ref).set j (.ref L.st)=(ss.set j L.st).map V.ref:=List.map_set.symm;rw[gw]at kn;refine cg ?_;refine{_,rfl,t6,_,_,_,rfl,rfl,SqT.of (kz _ _ ls),rfl,I.en,rfl,?_}
   cases een:I.en with
   |true=>
    rw[een]at k mu;refine iH ?_;refine{_,rfl,th,_,_,_,rfl,rfl,SqT.of (kz _ _ hR),rfl,lt2,fun J lR=>?_};have sz:=aF lR (.tup [.str "end",.ref Y]);refine{_,rfl,co,CC,dx,_,rfl,sz _ _ iF,T.cl,T.nE,wZ _ _ _ _ _,?_};rw[zy];have U:Hid ex (upd (upd G9 J (.tup [.str "end",.ref Y])) co (.ins CC dx (iz (.ref m) (.ref sl) (.ref pl) (.ref Y) (.ref J))))=Hid ex (upd G9 J (.tup [.str "end",.ref Y])):=gz c.i1;have lK:∀a∈ex,∃o,upd G9 J (.tup [.str "end",.ref Y]) a=some o/\∀xs,o≠.tup xs:=fun a ha=>by
     obtain⟨o,e,n⟩:=jp a ha;exact{o,sz _ _ e,n}
    have O:aV (Hid ex W) (Hid ex (upd G9 J (.tup [.str "end",.ref Y]))):=F9.trans (gv sz);have mr:Hid ex (upd G9 J (.tup [.str "end",.ref Y])) J=some (.tup [.str "end",.ref Y]):=gA lK ag;have mb:∀{a:aa} {o:HO},a≠co->upd G9 J (.tup [.str "end",.ref Y]) a=some o->upd (upd G9 J (.tup [.str "end",.ref Y])) co (.ins CC dx (iz (.ref m) (.ref sl) (.ref pl) (.ref Y) (.ref J))) a=some o:=fun n e=>aS e n;have iv:aV (Hid ex W) (upd (upd G9 J (.tup [.str "end",.ref Y])) co (.ins CC dx (iz (.ref m) (.ref sl) (.ref pl) (.ref Y) (.ref J)))):=by
     refine aV.trans O ?_;rw[<- U];exact dD
    refine{_,rfl,t6,_,_,_,rfl,rfl,SqT.of (iv _ _ ls),rfl,?_};refine k _ _ {mu,?_,c.i1,c.i2,c.i3,c.n1,c.n2,c.n3,{dx,_,_,ag,?_,?_},{_,mb c.n1.symm (sz _ _ kn),?_},{_,mb c.n2.symm (sz _ _ g1),?_},im,fun a ha=>?_} ?_ ?_ ?_
    ·exact B4 c.sm fun a n1 n2 n3 o e=>mb n1 (sz _ _ (lw a n1 n2 n3 o e))
    ·rw[U];exact{Y,rfl,O _ _ lM}
    ·rw[U];exact{J,Y,rfl,mr,O _ _ lM}
    ·rw[U];exact hP O
    ·rw[U];exact Paired.mono (fun _ _ z=>z.same O) g2
    ·by_cases z:a=co
     ·rw[z];exact{_,ag,fun xs z=>by cases z}
     ·obtain⟨o,e,n⟩:=lK a ha;exact{o,mb z e,n}
    ·rw[U];exact f6.trans O
    ·exact fun a n1 n2 n3 o e=>mb n1 (sz _ _ (lw a n1 n2 n3 o e))
    ·rw[U];exact kG.same O
   |false=>
    rw[een]at k mu;refine gb ?_;have eF:sv=.non:=by
     rw[hg]at la;exact la
    refine{_,rfl,t6,_,_,_,rfl,rfl,SqT.of (kz _ _ ls),rfl,?_};exact k _ _ {mu,B4 c.sm lw,c.i1,c.i2,c.i3,c.n1,c.n2,c.n3,{dx,_,_,iF,{Y,rfl,F9 _ _ lM},eF},{_,kn,hP F9},{_,g1,Paired.mono (fun _ _ z=>z.same F9) g2},im,jp} (f6.trans F9) lw (kG.same F9)
 ·-- a fault
  obtain⟨e,u3,u4,u5,rfl,rfl,ew,s6⟩:=ht;rw[qP d ew]at k;have mu:=ET c.ok d ew;rw[qP d ew]at mu;refine .inl {hx e,fun ea hF=>?_};have sx:=aF hF (XO ea (cf e));have s7:=s6.trans sx;have f7:aV (Hid ex H) (Hid ex (upd W ea (XO ea (cf e)))):=by
   rw[<- F1];exact gv s7
  refine cg ?_;refine{_,rfl,ea,e,rfl,ag,_,rfl,_,rfl,th,_,_,_,rfl,rfl,SqT.of (s7 _ _ mt),rfl,(by show 3<=aB;decide),fun J lR=>?_};have sz:=aF lR (.tup [.str "fault",.str (rO e),.ref Y]);have s8:=s7.trans sz;refine{_,rfl,co,CC,dx,_,rfl,s8 _ _ mm,T.cl,T.nE,wZ _ _ _ _ _,?_};rw[zy];revert lR sz s8;generalize upd W ea (XO ea (cf e))=G7 at f7 |-;intro lR sz s8;have U:Hid ex (upd (upd G7 J (.tup [.str "fault",.str (rO e),.ref Y])) co (.ins CC dx (iz (.ref m) (.ref sl) (.ref pl) rv (.ref J))))=Hid ex (upd G7 J (.tup [.str "fault",.str (rO e),.ref Y])):=gz c.i1;have lK:∀a∈ex,∃o,upd G7 J (.tup [.str "fault",.str (rO e),.ref Y]) a=some o/\∀xs,o≠.tup xs:=fun a ha=>by
   obtain⟨o,e,n⟩:=mn a ha;exact{o,s8 _ _ e,n}
  have O:aV (Hid ex H) (Hid ex (upd G7 J (.tup [.str "fault",.str (rO e),.ref Y]))):=f7.trans (gv sz);have mr:Hid ex (upd G7 J (.tup [.str "fault",.str (rO e),.ref Y])) J=some (.tup [.str "fault",.str (rO e),.ref Y]):=gA lK ag;refine k _ _ {mu,?_,c.i1,c.i2,c.i3,c.n1,c.n2,c.n3,{dx,_,_,ag,?_,?_},{ss,aS (s8 _ _ md) c.n1.symm,?_},{Z,aS (s8 _ _ lz) c.n2.symm,?_},c.wk,fun a ha=>?_} ?_ ?_ rfl
  ·exact B4 c.sm fun a n1 n2 n3 o e=>aS (s8 _ _ (mq a n1 n2 n3 o e)) n1
  ·rw[U];exact eH.same O
  ·rw[U];exact{J,Y,rfl,mr,O _ _ io}
  ·rw[U];exact Paired.mono (fun _ _ z=>jO.same' O z) ka
  ·rw[U];exact Paired.mono (fun _ _ z=>z.same O) lc
  ·by_cases z:a=co
   ·rw[z];exact{_,ag,fun xs z=>by cases z}
   ·obtain⟨o,e,n⟩:=lK a ha;exact{o,aS e z,n}
  ·rw[U];exact O
  ·exact fun a n1 n2 n3 o e=>aS (s8 _ _ (mq a n1 n2 n3 o e)) n1
end
def uv(Ms:List MD):Prop:=∀M∈Ms,∀q∈M.hs,q.2.toOk (Ms.length:Int)/\q.2.deep<=4/\q.2.size<=3*ddz 4
theorem vi.ok{CM:aa}{Ms:List MD}{H:Hp}{m:aa}(h:vi CM Ms H m):uv Ms:=by
 obtain⟨dx,Y,fs,_,_,xs,_,p⟩:=h;intro M hM;obtain⟨j,Z⟩:=dH hM;obtain⟨x,_,z⟩:=jT p Z;exact z.hk
theorem Oh{Ms:List MD}{r:RS}(k:ROk Ms.length r)(n:r.pd≠[]):∃h M s,Did Ms r h M s:=by
 obtain⟨h,hl⟩:∃h,r.pd.getLast?=some h:=by
  cases e:r.pd.getLast? with
  |none=>exact absurd (zz.mp e) n
  |some h=>exact⟨h,rfl⟩
 have Z:=wW hl;have Y:h∈r.pd:=by
  rw[Z];exact bj _ (aE.mpr rfl)
 have V:=k.ev h Y;have W:h.to.toNat<Ms.length:=by have:=V.to1;have:=V.to0;omega
 have U:h.to.toNat<r.sts.length:=by rw[k.len];exact W
 exact{h,_,_,Z,aI W,aI U}
inductive HX(Ms:List MD)(r:RS):Prop
 |err(h:Ev)(M:MD)(s:Sta)(e:Flt)(d:Did Ms r h M s)(q:doS h M.ds (jG M.hs h.sg) s.w=.error e)(eq:fY Ms r=({r with pd:=r.pd.dropLast,sp:=some (.flt e h)},[]))
 |ok(h:Ev)(M:MD)(s:Sta)(w:Wk)(d:Did Ms r h M s)(q:doS h M.ds (jG M.hs h.sg) s.w=.ok w)(N:News (Ms.length:Int) h (3*ddz 4) s.w w)
   (eq:fY Ms r=(⟨r.sts.set h.to.toNat ⟨w.bx,w.qu,w.dr,w.se⟩,kZ w.out r.pd.dropLast,some h,if w.en=true then some (.fin h) else none⟩,[⟨h,wrB M.bs w,wrQ M.qs w,w.out⟩]))
theorem mZ{Ms:List MD}{r:RS}(mo:uv Ms)(k:ROk Ms.length r)(n:r.pd≠[]):HX Ms r:=by
 obtain⟨h,M,s,d⟩:=Oh k n;have dk:=Di (P:=fun D=>D.toOk (Ms.length:Int)/\D.deep<=4/\D.size<=3*ddz 4) (mo M (cq d.hM)) ⟨by simp only[Ds.toOk],by simp only[Ds.deep];omega,by simp only[Ds.size];omega⟩ h.sg
 cases q:doS h M.ds (jG M.hs h.sg) s.w with
 |error e=>exact .err h M s e d q (qP d q)
 |ok w=>exact .ok h M s w d q ((oE _ _ _ dk.1 q).le dk.2.2) (tu d q)
theorem iA{r:RS}{left:Int}(h:gT r left=none):r.sp=none/\r.pd≠[]/\0<left:=by
 unfold gT at h
 split at h
 ·cases h
 ·rename_i e
  split at h
  ·cases h
  ·rename_i c
   split at h
   ·cases h
   ·refine{e,fun z=>?_,by omega};rw[z]at c;exact c rfl
theorem Oi{r:RS}{left:Int}{s:Stp}(h:r.sp=some s):gT r left=some (.stp s):=by
 unfold gT;rw[h]
theorem tF{Ms:List MD}{r:RS}(h:HX Ms r):(fY Ms r).1.pd.length<=r.pd.length+5000*(fY Ms r).2.length/\((∃q,(fY Ms r).2=[q])\/((fY Ms r).2=[]/\∃s,(fY Ms r).1.sp=some s)):=by
 cases h with
 |err h M s e d q eq=>
  rw[eq];refine{?_,.inr {rfl,_,rfl}};show r.pd.dropLast.length<=_;rw[kQ];omega
 |ok h M s w d q N eq=>
  rw[eq];refine{?_,.inl {_,rfl}};show (kZ w.out r.pd.dropLast).length<=r.pd.length+5000*1;rw[(d8 _ _).length_eq,aA,kQ];obtain⟨new,e1,Y,_⟩:=N.ex;have e1:w.out=new:=e1;have Z:3*ddz 4<=5000:=by decide
  rw[e1];omega
def kT(Ms:List MD)(r:RS)(Z:Int)(i:Nat)(e:End):Prop:=(∀j,j<i->ROk Ms.length (itR Ms r j).1/\gT (itR Ms r j).1 (Z-(itR Ms r j).2.length)=none)/\gT (itR Ms r i).1 (Z-(itR Ms r i).2.length)=some e/\ROk Ms.length (itR Ms r i).1
def rMu(σ:St)(G:Hp):Nat:=match (σ[3]?:Option (Option V)),(σ[2]?:Option (Option V)) with
 |some (some .non),some (some (.ref rl))=>(match G rl with|some (.lst rs)=>1+(2000-rs.length)|_=>0)
 |_,_=>0
theorem Dk{σ:St}{G:Hp}{rl:aa}{rs:List V}(Y:σ[3]?=some (some .non))(Z:σ[2]?=some (some (.ref rl)))(hr:G rl=some (.lst rs)):rMu σ G=1+(2000-rs.length):=by
 unfold rMu;rw[Y,Z];dsimp only;rw[hr]
theorem Dl{σ:St}{G:Hp}{t:aa}(Z:σ[3]?=some (some (.ref t))):rMu σ G=0:=by
 unfold rMu;rw[Z]
theorem nF.ref{F:Hp}{v:V}:∀{e:End},nF F v e->∃t,v=.ref t
 |.empty,⟨t,e,_⟩=>⟨t,e⟩
 |.cut,⟨t,e,_⟩=>⟨t,e⟩
 |.stp (.fin _),⟨t,_,e,_⟩=>⟨t,e⟩
 |.stp (.flt _ _),⟨t,_,e,_⟩=>⟨t,e⟩
section
variable{P:aN}{w:bL}{K:ae}{mg:Str->Option af}{base:cz}{f fE fO CC CM CS:aa}{fd fdE fdO:bR}
seal PS PSs PE PA PT PW PI PG PGs PC
structure Ran(CC CS:aa)(Ms:List MD)(Hb:Hp)(ex:Ex)(co m sl pl:aa)(r:RS)(most:Int)(H G:Hp)(t:aa)(i:Nat)(e:End):Prop where
 st:kT Ms r most i e
 cc:iL CC CS Ms Hb ex G co m sl pl (itR Ms r i).1
 sm:aV (Hid ex H) (Hid ex G)
 ot:Oth ex co sl pl H G
 rs:∃rl en rvs,Hid ex G t=some (.tup [.ref rl,en])/\Hid ex G rl=some (.lst rvs)/\H rl=none/\aP (RcIn (Hid ex G)) rvs (itR Ms r i).2/\nF (Hid ex G) en e
inductive HY(CC CM CS:aa)(vs:List V)(H:Hp)(Q:VK)(_e:XK):Prop where
 |mk(Ms:List MD)(Hb:Hp)(ex:Ex)(co m sl pl:aa)(r:RS)(most:Int)(_:vs=[.ref co,.int most])(_:vi CM Ms Hb m)(_:iL CC CS Ms Hb ex H co m sl pl r)(_:most<=1000)(_:r.pd.length<=1000000)(_:∀G t i e,Ran CC CS Ms Hb ex co m sl pl r most H G t i e->Q (.ref t) G):HY CC CM CS vs H Q _e
def AN(CC CM CS:aa):Sp:=fun vs H Q Z=>HY CC CM CS vs H Q Z
abbrev nRn:List Str:=["course","most","records","ending","record"]
theorem HZ:bM nRn ["course","most"] (aM lS):={}
theorem xf(D:Df K mg "run_on" lS ["course","most"] f fd)(ME:Mt K CC "ending_due" "Course.ending_due" fH ["self","left"] fE fdE)(GE:bA P w K mg base CX0 1 fE fdE ["self","left"] (Of CC CS))
  (MO:Mt K CC "do_one" "Course.do_one" iw ["self"] fO fdO) (GO:bA P w K mg base CX0 38 fO fdO ["self"] (LX CC CM CS)) (T:CoT K mg CC) (B:Bl mg) :
  bA P w K mg base CX0 39 f fd ["course","most"] (AN CC CM CS):=by
 refine D.F.ok HZ (fun vs H Q E h=>?_) (fun dL A outer s H vs Q E hr h=>?_)
 ·obtain⟨Ms,Hb,ex,co,m,sl,pl,r,Z,rfl,_⟩:=h;rfl
 obtain⟨Ms,Hb,ex,co,m,sl,pl,r,Z,rfl,hM,c,ee,ea,k⟩:=h;have r1:cQ 1 _:=hr.mono (by decide);refine⟨_,ai (bh (i:=2) HZ.nd rfl (Or.inl rfl) (eA aj))
  (ai (bh (i:=3) HZ.nd rfl (Or.inl rfl) (gf (pv 0) T.cl ME.m GE r1 ME.b .nil bC (au (pv 1) aj)))
  (ai (vU cO (oK (Bb (pv 3)))
   (ai (bh (i:=4) HZ.nd rfl (Or.inl rfl) (jh (pv 0) T.cl MO.m GO hr MO.b .nil bC))
   (ai (cK (oK (vk (pv 4))) (ay (d9 (nX bV cY cZ iC (pv 2) (au (pv 4) aj)))) bS)
   (ay (bh (i:=3) HZ.nd rfl (Or.inl rfl) (gf (pv 0) T.cl ME.m GE r1 ME.b .nil bC (au (cV jS (pv 1) (cS (eX K (by rfl)) (by rfl) B.len cA (au (pv 2) aj))) aj)))))))
  (ay (bN (eD (au (pv 2) (au (pv 3) aj))))))),?_⟩
 have fa:∀{G:Hp} {r':RS} {ex':Ex},iL CC CS Ms Hb ex' G co m sl pl r'->∃dx fs,G co=some (.ins CC dx fs)/\fs.lookup ("ending_due":Str)=none/\fs.lookup ("do_one":Str)=none:=fun c'=>by
  obtain⟨dx,rv,sv,h1,_⟩:=c'.hc;exact{dx,_,h1,w5 _ _ _ _ _ (by decide +kernel),w5 _ _ _ _ _ (by decide +kernel)}
 have mo:=hM.ok
 -- no records
 refine cg (cL ?_);refine{bU _,fun rl U=>?_};refine aY ?_;dsimp only;have c0:=c.more (o:=.lst []) U (fun xs z=>by cases z);have ez:upd H rl (.lst []) rl=some (.lst []):=ag;have f0:aV (Hid ex H) (Hid (ex.add rl) (upd H rl (.lst []))):=by
  rw[qQ U];exact aV.refl _
 have ey:Oth ex co sl pl H (upd H rl (.lst [])):=fun a _ _ _ o e=>aS e (av e U);have n1:co≠rl:=by
  obtain⟨dx,rv,sv,h1,_⟩:=c.hc;exact av h1 U
 have n2:sl≠rl:=by
  obtain⟨ss,h1,_⟩:=c.hs;exact av h1 U
 have n3:pl≠rl:=by
  obtain⟨ss,h1,_⟩:=c.hp;exact av h1 U
 have er:Hb rl=none:=by
  cases z:Hb rl with
  |none=>rfl
  |some o=>
   have y:=(c.sm _ _ z).2.2.2;rw[U]at y
   cases y
 revert c0 ez f0 ey;generalize upd H rl (.lst [])=G0;intro c0 ez f0 ey;refine cg (cL ?_);obtain⟨dx,fs,I,gd,ft⟩:=fa c0;refine{_,rfl,co,dx,fs,rfl,I,gd,_,rfl,Ms,Hb,ex.add rl,co,m,sl,pl,r,Z,rfl,c0,fun en G1 s1 fy=>?_};refine aY ?_;dsimp only;refine cg ?_;refine Aa (fun σ G=>∃(i:Nat) (en:V) (u4:Option V) (Y:List V),σ=[some (.ref co),some (.int Z),some (.ref rl),some en,u4]/\(∀j,j<i->ROk Ms.length (itR Ms r j).1/\gT (itR Ms r j).1 (Z-(itR Ms r j).2.length)=none)/\iL CC CS Ms Hb (ex.add rl) G co m sl pl (itR Ms r i).1 /\
   G rl=some (.lst Y)/\aP (RcIn (Hid (ex.add rl) G)) Y (itR Ms r i).2/\aV (Hid ex H) (Hid (ex.add rl) G)/\Oth ex co sl pl H G/\(itR Ms r i).1.pd.length<=1000000+5000*(itR Ms r i).2.length /\
   ((gT (itR Ms r i).1 (Z-(itR Ms r i).2.length)=none/\en=.non)\/∃e,gT (itR Ms r i).1 (Z-(itR Ms r i).2.length)=some e/\nF (Hid (ex.add rl) G) en e)) rMu ?_ ?_ ?_
 ·refine{0,en,_,[],rfl,fun j hj=>absurd hj (gW _),c0.same s1,s1 _ _ ez,.nil,f0.trans (gv s1),fun a q1 q2 q3 o e=>s1 _ _ (ey a q1 q2 q3 o e),by show r.pd.length<=_;omega,?_};have e0:Z-(((itR Ms r 0).2.length:Nat):Int)=Z:=by
   show Z-((0:Nat):Int)=Z;omega
  rw[e0];exact fy
 ·clear fy;rintro σ G ⟨i,en,u4,Y,rfl,hj,c1,fx,fe,f1,em,dV,hd⟩;have eb:=aZ fe
  rcases hd with⟨hd,rfl⟩|⟨e,hd,fy⟩
  ·obtain⟨d1,d2,d3⟩:=iA hd;have si:=mZ mo c1.ok d2;obtain⟨fk,ej⟩:=tF si;refine{_,rfl,_,rfl,iH ?_};refine cg (cL ?_);obtain⟨dx,fs,I,gd,ft⟩:=fa c1;refine{_,rfl,co,dx,fs,rfl,I,ft,Ms,Hb,ex.add rl,co,m,sl,pl,_,rfl,hM,c1,d1,d2,by omega,fun v G2 c2 f2 el tl=>?_};refine aY ?_;dsimp only;have ge:G2 rl=some (.lst Y):=el rl n1.symm n2.symm n3.symm _ fx;have eF:Oth ex co sl pl H G2:=fun a q1 q2 q3 o e=>el a q1 q2 q3 o (em a q1 q2 q3 o e);have ek:rMu [some (.ref co),some (.int Z),some (.ref rl),some .non,u4] G=1+(2000-Y.length):=Dk rfl rfl fx;have big:2000<aB:=by decide
   have eL:itR Ms r (i+1)=((fY Ms (itR Ms r i).1).1,(itR Ms r i).2++(fY Ms (itR Ms r i).1).2):=rfl;have eo:∀j,j<i+1->ROk Ms.length (itR Ms r j).1/\gT (itR Ms r j).1 (Z-(itR Ms r j).2.length)=none:=fun j dG=>by
    rcases ve j i with z|z
    ·exact hj j z
    ·have:j=i:=by omega
     rw[this];exact⟨c1.ok,hd⟩
   rcases ej with⟨q,eq⟩|⟨eq,sp,ef⟩
   ·rw[eq]at tl fk;obtain⟨J,eh⟩:∃J,v=.ref J:=by
     obtain⟨J,_,_,_,_,_,_,_,e,_⟩:=tl;exact⟨J,e⟩
    subst eh;refine cg ?_;refine{_,rfl,_,rfl,iH ?_};refine{_,rfl,.inl {rfl,_,SqL.of ge},_,rfl,rl,Y,.ref J,rfl,rfl,ge,by omega,?_};have c3:=c2.upd (a:=rl) (o:=.lst (Y++[.ref J])) Ex.here er n1 n2 n3 (fun xs z=>by cases z);have M:upd G2 rl (.lst (Y++[.ref J])) rl=some (.lst (Y++[.ref J])):=ag;have f3:Hid (ex.add rl) (upd G2 rl (.lst (Y++[.ref J])))=Hid (ex.add rl) G2:=gz Ex.here;have et:Oth ex co sl pl H (upd G2 rl (.lst (Y++[.ref J]))):=fun a q1 q2 q3 o e=>aS (eF a q1 q2 q3 o e) (av e U);have W:aP (RcIn (Hid (ex.add rl) (upd G2 rl (.lst (Y++[.ref J]))))) (Y++[.ref J]) (itR Ms r (i+1)).2:=by
     rw[f3,eL,eq];exact eP (Paired.mono (fun _ _ z=>z.same f2) fe) tl
    have ew:aV (Hid ex H) (Hid (ex.add rl) (upd G2 rl (.lst (Y++[.ref J])))):=by
     rw[f3];exact f1.trans f2
    have O:iL CC CS Ms Hb (ex.add rl) (upd G2 rl (.lst (Y++[.ref J]))) co m sl pl (itR Ms r (i+1)).1:=c3;revert O M et W ew;clear c3 f3;generalize upd G2 rl (.lst (Y++[.ref J]))=G3;intro M et W ew O;have l3:=aZ W;dsimp only;refine cL ?_;obtain⟨dx,fs,I,gd,ft⟩:=fa O;refine{_,rfl,co,dx,fs,rfl,I,gd,_,rfl,_,rfl,rl,_,rfl,.inl (SqL.of M),_,_,rfl,rfl,Ms,Hb,ex.add rl,co,m,sl,pl,_,_,rfl,O,fun fo G4 s4 g=>?_};refine aY ?_;dsimp only;refine{{i+1,fo,_,_,rfl,eo,O.same s4,s4 _ _ M,Paired.mono (fun _ _ z=>z.same (gv s4)) W,ew.trans (gv s4),fun a q1 q2 q3 o e=>s4 _ _ (et a q1 q2 q3 o e),?_,?_},?_}
    ·rw[eL,eq,aA];show (fY Ms (itR Ms r i).1).1.pd.length<=_;show _<=1000000+5000*((itR Ms r i).2.length+1);simp only[aT,cw]at fk;omega
    ·rw[<- l3];exact g
    ·rw[ek]
     rcases g with⟨_,rfl⟩|⟨e,_,he⟩
     ·rw[Dk rfl rfl (s4 _ _ M),aA];simp only[aT,cw];omega
     ·obtain⟨t,rfl⟩:=he.ref;rw[Dl rfl];omega
   ·rw[eq]at tl fk;have tl:v=.non:=tl;subst tl;refine cg ?_;refine{_,rfl,_,rfl,gb (B5 ?_)};dsimp only;have O:iL CC CS Ms Hb (ex.add rl) G2 co m sl pl (itR Ms r (i+1)).1:=c2;have W:aP (RcIn (Hid (ex.add rl) G2)) Y (itR Ms r (i+1)).2:=by
     rw[eL,eq,cv];exact Paired.mono (fun _ _ z=>z.same f2) fe
    have l3:=aZ W;refine cL ?_;obtain⟨dx,fs,I,gd,ft⟩:=fa O;refine{_,rfl,co,dx,fs,rfl,I,gd,_,rfl,_,rfl,rl,_,rfl,.inl (SqL.of ge),_,_,rfl,rfl,Ms,Hb,ex.add rl,co,m,sl,pl,_,_,rfl,O,fun fo G4 s4 g=>?_};refine aY ?_;dsimp only;have eH:∃e,gT (itR Ms r (i+1)).1 (Z-(Y.length:Int))=some e/\nF (Hid (ex.add rl) G4) fo e:=by
     rcases g with⟨z,_⟩|z
     ·have y:gT (itR Ms r (i+1)).1 (Z-(Y.length:Int))=some (.stp sp):=Oi ef;rw[y]at z
      cases z
     ·exact z
    refine{{i+1,fo,_,_,rfl,eo,O.same s4,s4 _ _ ge,Paired.mono (fun _ _ z=>z.same (gv s4)) W,(f1.trans f2).trans (gv s4),fun a q1 q2 q3 o e=>s4 _ _ (eF a q1 q2 q3 o e),?_,?_},?_}
    ·rw[eL,eq,cv];show (fY Ms (itR Ms r i).1).1.pd.length<=1000000+5000*(itR Ms r i).2.length;simp only[cw]at fk;omega
    ·rw[<- l3];exact .inr eH
    ·rw[ek];obtain⟨e,_,he⟩:=eH;obtain⟨t,rfl⟩:=he.ref;rw[Dl rfl];omega
  ·obtain⟨t0,rfl⟩:=fy.ref;refine{_,rfl,_,rfl,gb ?_};dsimp only;refine eS ?_;refine{_,rfl,_,rfl,lt2,fun t ht=>?_};have fz:=aF ht (.tup [.ref rl,.ref t0]);have f5:aV (Hid (ex.add rl) G) (Hid ex (upd G t (.tup [.ref rl,.ref t0]))):=(gv fz).trans AM;have ed:rl∉ex:=fun z=>by
    obtain⟨o,e,_⟩:=c.nt rl z;rw[U]at e
    cases e
   have ei:∀a∈ex,∃o,upd G t (.tup [.ref rl,.ref t0]) a=some o/\∀xs,o≠.tup xs:=fun a ha=>by
    obtain⟨o,e,n⟩:=c1.nt a (Ex.more ha);exact{o,fz _ _ e,n}
   exact k _ t i e {⟨hj,hd,c1.ok⟩,(c1.same fz).less n1 n2 n3,f1.trans f5,fun a q1 q2 q3 o e=>fz _ _ (em a q1 q2 q3 o e),rl,_,Y,gA ei ag,by rw[dS ed];exact fz _ _ fx,U,Paired.mono (fun _ _ z=>z.same f5) fe,fy.same f5}
 ·rintro σ G4 Q1 Q2 hq ⟨x,hx,c,ec,z⟩;exact{x,hx,c,ec,hq _ _ z}
end
def st0(M:MD):Sta:={M.ps,M.qs.map fun q=>(q,[]),0,0}
def oH(es:List Ev):List Ev:=es.mapIdx fun i e=>atP e i
def eG(Ms:List MD)(es:List Ev):RS:={Ms.map st0,kZ (oH es) [],none,none}
theorem nG{Z Y:Type}{R:Z->Y->Prop}:∀{xs:List Z} {ys:List Y},xs.length=ys.length->(∀(i:Nat) x y,xs[i]?=some x->ys[i]?=some y->R x y)->aP R xs ys
 | [],[],_,_=>.nil
 | [],_::_,l,_=>by cases l
 |_::_,[],l,_=>by cases l
 |x::xs,y::ys,l,h=>.cons (h 0 x y rfl rfl) (nG (by simpa using l) fun i a b ha hb=>h (i+1) a b (by simpa using ha) (by simpa using hb))
theorem l8(es:List Ev):(oH es).length=es.length:=List.length_mapIdx
theorem rh{es:List Ev}{i:Nat}{x:Ev}(h:(oH es)[i]?=some x):∃e,es[i]?=some e/\x=atP e i:=by
 unfold oH at h;rw[List.getElem?_mapIdx]at h
 cases z:es[i]? with
 |none=>
  rw[z]at h
  cases h
 |some e=>
  rw[z]at h
  cases h;exact⟨e,rfl,rfl⟩
theorem Do(es:List Ev):(oH es).Pairwise (fun a b=>a.key≠b.key):=by
 refine dC.mpr fun i j hi Z lt=>?_;obtain⟨e,_,h1⟩:=rh (es:=es) (i:=i) (x:=(oH es)[i]) (aI hi);obtain⟨Y,_,h2⟩:=rh (es:=es) (i:=j) (x:=(oH es)[j]) (aI Z);rw[h1,h2];refine nC (.inr ?_);show (i:Int)≠(j:Int);omega
theorem Dp{Ms:List MD}{es:List Ev}(h:∀e∈es,wV Ms.length e):ROk Ms.length (eG Ms es):=by
 refine{ao _,lB List.Pairwise.nil (fun x _ y hy=>by cases hy) (Do es),fun e Z=>?_,fun e Z=>?_}
 ·rcases bY.mp ((d8 _ _).mem_iff.mp Z) with z|z
  ·obtain⟨i,hi⟩:=dH z;obtain⟨Y,h',rfl⟩:=rh hi;obtain⟨a,b,c,d,f⟩:=h Y (cq h');exact⟨a,b,c,d,f⟩
  ·cases z
 ·rcases bY.mp ((d8 _ _).mem_iff.mp Z) with z|z
  ·obtain⟨i,hi⟩:=dH z;obtain⟨Y,h',rfl⟩:=rh hi;exact .inl rfl
  ·cases z
theorem New.sta{H H':Hp}{CS st dx bd qd:aa}{Z:List aa}{M:MD}(N:New H H' CS st M.ps M.qs dx bd qd Z)(nb:(M.ps.map (·.1)).Nodup)(nq:M.qs.Nodup):StA CS H' st (st0 M):=by
 have inj:∀xs:List Str,xs.Nodup->(xs.map (Sum.inr:Str->Key)).Nodup:=fun xs h=>List.Pairwise.map _ (fun a b z y=>z (mI y)) h;refine{dx,bd,qd,M.qs.zip Z,N.hst,?_,?_,?_}
 ·have z:H' bd=some (.dK (rM (boK M.ps) [])):=N.hbd;have e:rM (boK M.ps) []=boK M.ps:=by
   rw[BP]
   ·exact lC _
   ·rw[lC];unfold boK;rw[dI];have:=inj _ nb;rw[dI]at this;exact this
  rw[e]at z;exact z
 ·have z:H' qd=some (.dK (rM (quK (M.qs.zip Z)) [])):=N.hqd;have e:rM (quK (M.qs.zip Z)) []=quK (M.qs.zip Z):=by
   rw[BP]
   ·exact lC _
   ·rw[lC];unfold quK;rw[dI];have e1:(M.qs.zip Z).map ((fun x:Key×V=>x.1) ∘ fun p:Str×aa=>((Sum.inr p.1:Key),V.ref p.2))=((M.qs.zip Z).map (·.1)).map (Sum.inr:Str->Key):=by
     rw[dI];rfl
    rw[e1,List.map_fst_zip (by rw[N.len];exact aD _)];exact inj _ nq
  rw[e]at z;exact z
 ·refine nG ?_ fun i x y hx hy=>?_
  ·show _=((M.qs.map fun q=>(q,([]:List Int)))).length;rw[qJ,ao,N.len,Nat.min_self]
  ·have hx:=zc.mp hx;have hy:(M.qs.map fun q=>(q,([]:List Int)))[i]?=some y:=hy;rw[cC,hx.1]at hy
   cases hy;exact{rfl,(N.li _ (cq hx.2)).2}
theorem iJ{H:Hp}{a:aa}(n:H a=none):a∉({[],H}:Ex):=fun z=>z.elim (fun y=>by cases y) fun⟨o,e,_⟩=>by
 have e:H a=some o:=e;rw[n]at e
 cases e
theorem New.hid{H0 H H':Hp}{CS st dx bd qd:aa}{Z:List aa}{ps:List (Str×Int)}{qs:List Str}(s:aV H0 H)(N:New H H' CS st ps qs dx bd qd Z):New (fun _=>none) (Hid {[],H0} H') CS st ps qs dx bd qd Z:=
 {by rw[dS (iJ (none_of s N.ost))];exact N.hst,by rw[dS (iJ (none_of s N.obd))];exact N.hbd,by rw[dS (iJ (none_of s N.oqd))];exact N.hqd,N.len,N.nd,fun l hl=>{rfl,by rw[dS (iJ (none_of s (N.li l hl).1))];exact (N.li l hl).2},rfl,rfl,rfl,N.ne,fun a o e=>by cases e}
theorem H9{H G G':Hp}{l:List aa}(s:aV G G'):aV (Hid ⟨l,H⟩ G) (Hid {[],H} G'):=fun a o e=>by
 have Z:a∉({[],H}:Ex):=fun z=>fb e (z.elim (fun y=>by cases y) .inr);rw[dS Z];exact s _ _ (dD _ _ e)
theorem xg{H G G':Hp}{l:List aa}(s:aV G G')(n:∀a∈l,G a=none):aV (Hid {[],H} G) (Hid ⟨l,H⟩ G'):=fun a o e=>by
 have Z:=dD _ _ e;have Y:a∉(⟨l,H⟩:Ex):=fun z=>z.elim (fun y=>by rw[n a y]at Z;cases Z) fun y=>fb e (.inr y);rw[dS Y];exact s _ _ Z
theorem MoI.wk0{m:Int}{H:Hp}{v:V}{M:MD}(h:MoI m H v M):qK M.bs M.qs (st0 M).w:=by
 have Y:(10:Int)^15=1000000000000000:=by decide
 refine{h.kb,?_,h.nb,h.nq,fun p hp=>?_,fun p hp=>?_,ic,(fun x hx=>by cases hx),ic,(fun x hx=>by cases hx),(fun x hx=>by cases hx),?_}
 ·show (M.qs.map fun q=>(q,([]:List Int))).map (·.1)=_;rw[dI];exact List.map_id _
 ·exact h.wb p hp
 ·obtain⟨q,_,rfl⟩:=cB.mp hp;exact{bU _,fun n Z=>by cases Z}
 ·rw[aA];have:=h.lb;have:=h.lq;omega
section
variable{P:aN}{w:bL}{K:ae}{mg:Str->Option af}{base:cz}{f fI fF fPf fA fR fBk CC CM CS CB:aa}{fd fdI fdF fdPf fdA fdR fdBk:bR}
seal PS PSs PE PA PT PW PI PG PGs PC
inductive LY(CC:aa)(vs:List V)(H:Hp)(Q:VK)(_e:XK):Prop where
 |mk(b dx:aa)(m s p:V)(_:vs=[.ref b,m,s,p])(_:H b=some (.ins CC dx []))(_:∀G,G b=some (.ins CC dx (iz m s p .non .non))->But b H G->Q .non G):LY CC vs H Q _e
def Oj(CC:aa):Sp:=fun vs H Q Z=>LY CC vs H Q Z
theorem scCI:bM ["self","model","states","pending"] ["self","model","states","pending"] (aM nv):={}
theorem xh(F:Fun K "__init__" "Course.__init__" nv f fd)(T:CoT K mg CC):bA P w K mg base CX0 1 f fd ["self","model","states","pending"] (Oj CC):=by
 refine F.ok scCI (fun vs H Q E h=>?_) (fun Z A outer s H vs Q E hr h=>?_)
 ·obtain⟨b,dx,m,s',p,rfl,_⟩:=h;rfl
 obtain⟨b,dx,m,s',p,rfl,hb,k⟩:=h;refine{_,ai (eJ (pv 0) (pv 1) rfl) (ai (eJ (pv 0) (pv 2) rfl) (ai (eJ (pv 0) (pv 3) rfl) (ai (eJ (pv 0) tQ rfl) (ay (eJ (pv 0) tQ rfl))))),?_};have Y:=gZ "model" m [];have U:=gZ "states" s' (cH "model" m []);have W:=gZ "pending" p (cH "states" s' (cH "model" m []));have V:=gZ "reached" .non (cH "pending" p (cH "states" s' (cH "model" m [])));simp only[cw]at Y;refine{_,rfl,_,rfl,b,CC,dx,[],rfl,hb,T.cl,T.nM,(by show 0<1000;decide),_,rfl,_,rfl,b,CC,dx,_,rfl,ag,T.cl,T.nS,(by omega),_,rfl,_,rfl,b,CC,dx,_,rfl,ag,T.cl,T.nP,(by omega),?_};refine{_,rfl,b,CC,dx,_,rfl,ag,T.cl,T.nR,(by omega),_,rfl,b,CC,dx,_,rfl,ag,T.cl,T.nE,(by omega),?_};rw[Od];exact k _ ag (((((But.upd b H _).trans (But.upd b _ _)).trans (But.upd b _ _)).trans (But.upd b _ _)).trans (But.upd b _ _))
inductive Ia(CC CM CS:aa)(vs:List V)(H:Hp)(Q:VK)(_e:XK):Prop where
 |mk(Ms:List MD)(m sgl:aa)(svs:List V)(es:List Ev)(_:vs=[.ref m,.ref sgl])(_:vi CM Ms H m)(_:Ms.length<1000)(_:H sgl=some (.lst svs))(_:aP (tj H) svs es)(_:es.length<64)(_:(∀e∈es,wV Ms.length e))(_:∀(G:Hp) (co sl pl:aa),iL CC CS Ms H ⟨[co,sl,pl],H⟩ G co m sl pl (eG Ms es)->Q (.ref co) G):Ia CC CM CS vs H Q _e
def Dq(CC CM CS:aa):Sp:=fun vs H Q Z=>Ia CC CM CS vs H Q Z
abbrev nCa:List Str:=["model","signs","states"]
theorem scCa:bM nCa ["model","signs"] (aM fq):={}
theorem ndCa:((["at"]:List Str)++nCa).Nodup:=by decide +kernel
theorem B6(D:Df K mg "course_at_first" fq ["model","signs"] f fd)(DF:Df K mg "first_state" jZ ["model","at"] fF fdF)(GF:bA P w K mg base CX0 3 fF fdF ["model","at"] (AB CM CS))(gw:Df K mg "pending_at_first" gc ["signs"] fPf fdPf)(fa:bA P w K mg base CX0 1 fPf fdPf ["signs"] HL)
  (MC:Mk K CC fI) (bI:Binds K fdI ["self","model","states","pending"] []) (GI:bA P w K mg base CX0 1 fI fdI ["self","model","states","pending"] (Oj CC)) (T:CoT K mg CC) (TM:MdT K mg CM CS) (B:Bl mg) (BS:mg "sorted"=none) :
  bA P w K mg base CX0 4 f fd ["model","signs"] (Dq CC CM CS):=by
 refine D.F.ok scCa (fun vs H Q E h=>?_) (fun ea A outer s H vs Q E hr h=>?_)
 ·obtain⟨Ms,m,fk,fx,es,rfl,_⟩:=h;rfl
 obtain⟨Ms,m,fk,fx,es,rfl,hM,ed,ei,ey,ec,ge,k⟩:=h;have hu:=lN hr;have ez:=EB hr;have h5:=jA (Fi (by decide:5<=50) _) ez;have r1:cQ 1 _:=hr.mono (by decide);have r2:cQ 2 _:=hr.mono (by decide);have r3:cQ 3 _:=hr.mono (by decide);refine⟨_,ai (zd (i:=2) ["at"] (iI.open (NN:=nCa) (N:=nCa) (sc:=aM fq) rfl rfl (by decide +kernel) rfl (by decide +kernel) (by decide +kernel) rfl (by decide +kernel)) rfl scCa.nd rfl (Or.inl rfl) (iV (by rfl) B.range (au (cS (eX K (by rfl)) (by rfl) B.len cA (au (eg K (by rfl) (pv 0) (by rfl)) aj)) aj)) (fun _ _ _ _=>dO (i:=0) ndCa rfl (Or.inl rfl)) (fun _ _ _ _=>jY)
   (fun _ _ _ _=>aL GF r3 (by rfl) DF.m DF.F.kp DF.b .nil bC (au (pv 1) (au (pv 0) aj))))
  (ay (bN (jW MC GI r2 (by rfl) T.m bI .nil bC (au (pv 0) (au (pv 2) (au (GX h5 (by rfl) BS (au (aL fa r1 (by rfl) gw.m gw.F.kp gw.b .nil bC (au (pv 1) aj)) aj) lD) aj)))))),?_⟩
 obtain⟨ef,ml,fs,hm,ft,xs,gd,gr⟩:=id hM;have fe:xs.length=Ms.length:=aZ gr;have big:=dW;refine cg (cL ?_);refine ER (K:=K) (ms:=xs) rfl hm TM.clM TM.nM ft gd (by omega) (fun i ys G=>∃ss:List aa,ys=ss.map V.ref/\aV H G/\aP (StA CS (Hid {[],H} G)) ss ((Ms.take i).map st0)) {[],rfl,aV.refl _,by rw[jQ];exact .nil} ?_ ?_ ?_
 ·rintro i ys G hi ⟨ss,rfl,Z,p1⟩;have:=aZ p1;rw[ao,c9]at this;rw[ao];omega
 ·rintro i ys G hi ⟨ss,rfl,Z,p1⟩;obtain⟨Mi,fo⟩:∃M,Ms[i]?=some M:={_,aI (by omega)};obtain⟨x,hx,mo⟩:=jT gr fo;obtain⟨t,bl,ql,n0,x3,x4,vb,rfl,g1,g2,g3,g4⟩:=mo.fs;refine{rfl,?_};unfold xK;refine iH ?_;have lb:Mi.ps.length<=100:=by
   have e:=congrArg jy mo.kb;rw[ao]at e;have:=mo.lb;omega
  have lq:Mi.qs.length<=100:=by
   have:=mo.lq;omega
  refine{_,rfl,_,rfl,m,ef,ml,t,bl,ql,fs,n0,x3,x4,i,xs,vb,Mi.ps,Mi.qs,by rw[Int.zero_add];rfl,Z _ _ hm,ft,Z _ _ gd,hx,Z _ _ g1,Z _ _ g2,g3.same Z,lb,Z _ _ g4,lq,fun st dx bd qd ls G' N=>?_};refine{ss++[st],by rw[bT];rfl,Z.trans N.same,?_};rw[eR,fo,bT];exact eP (Paired.mono (fun _ _ z=>jO.same' (gv N.same) z) p1) ((N.hid Z).sta (by rw[mo.kb];exact mo.nb) mo.nq)
 rintro ys G ⟨ss,rfl,Z,p1⟩;rw[fe,dZ]at p1;intro sl gt;have Y:=aF gt (.lst (ss.map V.ref));refine aY ?_;dsimp only;refine eS (uo ?_);have em:=none_of Z gt;refine{_,rfl,_,rfl,_,rfl,fk,fx,es,rfl,Y _ _ (Z _ _ ei),Paired.mono (fun _ _ z=>(z.same Z).same Y) ey,by omega,fun G1 l0 ys W dV eo ly hy=>?_};have el:aP (hZ G1) ys (oH es):=nG (by rw[l8];exact ly) fun i y e eL he=>by
  obtain⟨e',h',rfl⟩:=rh he;exact hy i y e' eL h'
 obtain⟨z1,z2,z3⟩:=xa el;refine{l0,(ys.zip (oH es)).map fun u=>(u.1,u.2.key),rfl,?_,fun z hz=>?_,?_,?_,fun pl eh g pm fz=>?_}
 ·rw[dI];have:((fun x:V×List Int=>x.1) ∘ fun u:V×Ev=>(u.1,u.2.key))=(fun u:V×Ev=>u.1):=rfl;rw[this,z1];exact eo
 ·obtain⟨u,hu,rfl⟩:=cB.mp hz;exact B3 (z3 u hu)
 ·rw[dI];have:((fun x:V×List Int=>x.2) ∘ fun u:V×Ev=>(u.1,u.2.key))=Ev.key ∘ (fun u:V×Ev=>u.2):=rfl;rw[this,<- dI,z2];exact iQ.mpr (Do es)
 ·rw[ao,qJ,l8];omega
 obtain⟨ps,ek,et⟩:=yy (F:=G1) (us:=ys.zip (oH es)) (es:=kZ (oH es) []) (zs:=eh) z3 pm fz (by
  rw[z2];have:=d8 (oH es) [];rw[cv]at this;exact this.symm) (Dp ge).fall
 rw[ek];have I:=aF g (.lst ps);have gM:=W _ _ (ag:upd G sl (.lst (ss.map V.ref)) sl=_);have ew:sl≠pl:=av gM g;intro co fy U er eb;have O:=I _ _ gM;have J:upd G1 pl (.lst ps) pl=some (.lst ps):=ag;have ee:sl≠co:=av O U;have ej:pl≠co:=av J U;have sA:aV H (upd G1 pl (.lst ps)):=(Z.trans (Y.trans W)).trans I;refine{co,fy,_,_,_,rfl,ag,fun G' gl but=>{rfl,?_}};have sB:aV (upd G1 pl (.lst ps)) G':=fun a o e=>but _ _ (aS (aS e (av e er)) (av e U)) (av e U);have eF:H co=none:=none_of sA U;have eH:H pl=none:=none_of (Z.trans (Y.trans W)) g;have fG:∀a∈[co,sl,pl],G a=none:=fun a ha=>by
  simp only[ar,aK,or_false]at ha
  rcases ha with rfl|rfl|rfl
  ·exact none_of ((Y.trans W).trans I) U
  ·exact gt
  ·exact none_of (Y.trans W) g
 have sG:aV (Hid {[],H} G) (Hid {[co,sl,pl],H} G'):=xg (((Y.trans W).trans I).trans sB) fG;have gq:∀a∈({[co,sl,pl],H}:Ex),∃o,G' a=some o/\∀xs,o≠.tup xs:=fun a ha=>by
  rcases ha with ha|⟨o,e,n⟩
  case inr=>exact{o,(sA.trans sB) _ _ e,n}
  have ha:a∈[co,sl,pl]:=ha;simp only[ar,aK,or_false]at ha
  rcases ha with rfl|rfl|rfl
  ·exact{_,gl,fun xs z=>by cases z}
  ·exact{_,sB _ _ O,fun xs z=>by cases z}
  ·exact{_,sB _ _ J,fun xs z=>by cases z}
 refine k G' co sl pl {Dp ge,fun b o e=>{av e eF,av e em,av e eH,(sA.trans sB) _ _ e},.inl (by simp),.inl (by simp),.inl (by simp),ee.symm,ej.symm,ew,{fy,_,_,gl,rfl,rfl},{ss,sB _ _ O,Paired.mono (fun _ _ z=>jO.same' sG z) p1},{ps,sB _ _ J,Paired.mono (fun _ _ z=>hZ.hid gq (z.same (I.trans sB))) et},fun i M s hi hs=>?_,gq};have hs:(Ms.map st0)[i]?=some s:=hs;rw[cC,hi]at hs
 cases hs;obtain⟨x,_,mo⟩:=jT gr hi;exact mo.wk0
structure Ol(CB CS:aa)(G:Hp)(b:aa)(q:RS×List Rec)(e:End):Prop where
 ex:∃(dx rl sl:aa) (en:V) (rvs:List V) (ss:List aa),G b=some (.ins CB dx (HM (.ref rl) en (.ref sl)))/\G rl=some (.lst rvs)/\aP (RcIn G) rvs q.2/\nF G en e/\G sl=some (.lst (ss.map V.ref))/\aP (StA CS G) ss q.1.sts
inductive Ib(CM CS CB:aa)(vs:List V)(H:Hp)(Q:VK)(_e:XK):Prop where
 |mk(Ms:List MD)(m sgl:aa)(svs:List V)(es:List Ev)(most:Int)(_:vs=[.ref m,.ref sgl,.int most])(_:vi CM Ms H m)(_:Ms.length<1000)(_:H sgl=some (.lst svs))(_:aP (tj H) svs es)(_:es.length<64)(_:(∀e∈es,wV Ms.length e))(_:most<=1000)(_:∀(G:Hp) (b:aa) (i:Nat) (e:End),aV H G->kT Ms (eG Ms es) most i e->Ol CB CS (Hid ⟨[],H⟩ G) b (itR Ms (eG Ms es) i) e->Q (.ref b) G):Ib CM CS CB vs H Q _e
def LZ(CM CS CB:aa):Sp:=fun vs H Q Z=>Ib CM CS CB vs H Q Z
theorem Om:bM ["model","signs","most","course","told"] ["model","signs","most"] (aM vH):={}
theorem On(D:Df K mg "plain" vH ["model","signs","most"] f fd)(DA:Df K mg "course_at_first" fq ["model","signs"] fA fdA)(GA:bA P w K mg base CX0 4 fA fdA ["model","signs"] (Dq CC CM CS))(DR:Df K mg "run_on" lS ["course","most"] fR fdR)(GR:bA P w K mg base CX0 39 fR fdR ["course","most"] (AN CC CM CS))
  (MB:Mk K CB fBk) (bB:Binds K fdBk ["self","records","ending","states"] []) (GB:bA P w K mg base CX0 1 fBk fdBk ["self","records","ending","states"] (N9 CB)) (TB:BkT K mg CB) (T:CoT K mg CC) :
  bA P w K mg base CX0 40 f fd ["model","signs","most"] (LZ CM CS CB):=by
 refine D.F.ok Om (fun vs H Q E h=>?_) (fun cp A outer s H vs Q E hr h=>?_)
 ·obtain⟨Ms,m,I,M,es,Y,rfl,_⟩:=h;rfl
 obtain⟨Ms,m,I,M,es,Y,rfl,hM,O,dj,cr,cs,da,V,k⟩:=h;have r2:cQ 2 _:=hr.mono (by decide);have r4:cQ 4 _:=hr.mono (by decide);refine⟨_,ai (bh (i:=3) Om.nd rfl (Or.inl rfl) (aL GA r4 (by rfl) DA.m DA.F.kp DA.b .nil bC (au (pv 0) (au (pv 1) aj))))
  (ai (bh (i:=4) Om.nd rfl (Or.inl rfl) (aL GR hr (by rfl) DR.m DR.F.kp DR.b .nil bC (au (pv 3) (au (pv 2) aj))))
  (ay (bN (jW MB GB r2 (by rfl) TB.m bB .nil bC (au (bP cF (pv 4) aw (fun _ _=>rfl)) (au (bP cF (pv 4) aw (fun _ _=>rfl)) (au (cW (pv 3) rfl) aj))))))),?_⟩
 refine cg (cL ?_);refine{_,rfl,_,rfl,Ms,m,I,M,es,rfl,hM,O,dj,cr,cs,da,fun G co sl pl c=>?_};refine aY ?_;dsimp only;refine cg (cL ?_);refine{_,rfl,_,rfl,Ms,H,{[co,sl,pl],H},co,m,sl,pl,_,Y,rfl,hM,c,V,?_,fun J t i e R=>?_}
 ·show (kZ (oH es) []).length<=1000000;rw[(d8 _ _).length_eq,cv,l8];omega
 refine aY ?_;dsimp only;obtain⟨rl,en,cx,h1,h2,_,h3,h4⟩:=R.rs;obtain⟨dx,rv,sv,h5,_⟩:=R.cc.hc;obtain⟨ss,h6,h7⟩:=R.cc.hs;have hl:aV (Hid {[co,sl,pl],H} J) J:=dD;have g:aV H J:=fun a o e=>(R.cc.sm a o e).2.2.2;have de:H sl=none:=by
  cases z:H sl with
  |none=>rfl
  |some o=>exact absurd rfl (R.cc.sm _ _ z).2.1
 refine eS (uo ?_);refine{_,rfl,t,_,_,_,rfl,rfl,SqT.of (hl _ _ h1),rfl,_,rfl,t,_,_,_,rfl,rfl,SqT.of (hl _ _ h1),rfl,_,rfl,co,CC,dx,_,_,rfl,h5,T.cl,T.nS,HS _ _ _ _ _,fun b U hb dc nb=>{b,U,_,_,_,rfl,ag,fun G' di but=>{rfl,?_}}};have W:aV J G':=fun a o e=>but _ _ (aS (aS e (av e dc)) (av e hb)) (av e hb);have Z:aV (Hid {[co,sl,pl],H} J) (Hid {[],H} G'):=H9 W;exact k G' b i e (g.trans W) R.st {U,rl,sl,en,cx,ss,by rw[dS (iJ (none_of g hb))];exact di,Z _ _ h2,Paired.mono (fun _ _ z=>z.same Z) h3,h4.same Z,by rw[dS (iJ de)];exact W _ _ h6,Paired.mono (fun _ _ z=>jO.same' Z z) h7}
end
section
variable{P:aN}{w:bL}{K:ae}{mg:Str->Option af}{base:cz}{f fM fD:aa}{fd fdM fdD:bR}
def Dt:Sp:=fun vs H Q _=>∃c k:Int,vs=[.int c,.int k]/\fc c<=1048576/\∀r:Int,Q (.int r) H
theorem EX(x:Int):-(2^64)<x%2147483629/\x%2147483629<2^64:=by
 have h1:=lX x (show (2147483629:Int)≠0 by decide);have h2:=jF x (show (0:Int)<2147483629 by decide);omega
theorem scM:bM ["_law_cell","_law_k","_law_number"] ["_law_cell","_law_k"] (aM mR):={}
theorem Ic(D:Df K mg "_law_mixed" mR ["_law_cell","_law_k"] f fd):bA P w K mg base CX0 1 f fd ["_law_cell","_law_k"] Dt:=by
 refine D.F.ok scM (fun vs H Q E h=>?_) (fun Z A outer s H vs Q E hr h=>?_)
 ·obtain⟨c,k,rfl,_⟩:=h;rfl
 obtain⟨c,k,rfl,hc,q⟩:=h;refine⟨_,ai (bh (i:=2) scM.nd rfl (Or.inl rfl) (cV rS (cV rR (cV gP (cV gP (cV gP (cV JE (pv 0) (pv 0)) (cV rR aw (pv 0))) (cV rR aw (pv 1))) aw) aw) aw))
  (ay (bN (cV rS (cV gP (cV rR (pv 2) (pv 2)) aw) aw))),?_⟩
 refine{_,rfl,_,rfl,_,_,rfl,rfl,.of_bits hc hc,_,rfl,_,_,rfl,rfl,.inl {by decide,by decide},_,_,rfl,rfl,_,rfl,_,_,rfl,rfl,.inl {by decide,by decide},_,_,rfl,rfl,_,_,rfl,rfl,_,_,rfl,rfl,.inr {by decide,by decide},_,_,rfl,rfl,(by show (0:Int)<2147483629;decide),?_};refine{_,rfl,_,rfl,_,_,rfl,rfl,.inl (EX _),_,_,rfl,rfl,_,_,rfl,rfl,(by show (0:Int)<2147483587;decide),?_};exact q _
def dE(H:Hp)(p:aa):Prop:=∃x y:Int,H p=some (.lst [.int x,.int y])
theorem dE.same{H H':Hp}{p:aa}(a:dE H p)(b:aV H H'):dE H' p:=by
 obtain⟨x,y,e⟩:=a;exact{x,y,b _ _ e}
inductive Du(vs:List V)(H:Hp)(Q:VK)(_e:XK):Prop where
 |mk(p:aa)(n:Int)(_:vs=[.ref p,.int n])(_:dE H p)(_:0<n)(_:n<2^64)(_:∀(r:Int) (H':Hp),0<=r->r<n->dE H' p->But p H H'->Q (.int r) H'):Du vs H Q _e
def jt:Sp:=fun vs H Q Z=>Du vs H Q Z
theorem scD:bM ["_law_purse_here","_law_out_of","_law_drawn"] ["_law_purse_here","_law_out_of"] (aM dY):={}
theorem jm(D:Df K mg "_law_draw" dY ["_law_purse_here","_law_out_of"] f fd):bA P w K mg base CX0 1 f fd ["_law_purse_here","_law_out_of"] jt:=by
 refine D.F.ok scD (fun vs H Q E h=>?_) (fun V A outer s H vs Q E hr h=>?_)
 ·obtain⟨p,n,rfl,_⟩:=h;rfl
 obtain⟨p,n,rfl,⟨x,y,hp⟩,Y,W,q⟩:=h;refine⟨_,ai (cK (bO eN (bP cJ (pv 0) aw (fun _ _=>rfl)) aw (bX _)) (ay (qc (bP cJ (pv 0) aw (fun _ _=>rfl)) (tR (pv 0) aw nV))) bS)
  (ai (bh (i:=2) scD.nd rfl (Or.inl rfl) (cV rS (bP cJ (pv 0) aw (fun _ _=>rfl)) (pv 1)))
  (ai (qc (cV wF (bP cJ (pv 0) aw (fun _ _=>rfl)) (pv 1)) (tR (pv 0) aw nV))
  (ay (bN (pv 2))))),?_⟩
 refine{_,rfl,p,_,_,_,rfl,rfl,SqL.of hp,rfl,rfl,_,rfl,?_};refine gi (fun c=>?_) (fun c=>?_)
 ·refine{_,rfl,p,_,_,_,rfl,rfl,SqL.of hp,rfl,_,rfl,p,_,_,_,rfl,rfl,hp,rfl,?_};have Z:upd H p (.lst [.int y,.int y]) p=some (.lst [.int y,.int y]):=ag;refine{_,rfl,p,_,_,_,rfl,rfl,SqL.of Z,rfl,_,rfl,_,_,rfl,rfl,Y,?_};refine{_,rfl,p,_,_,_,rfl,rfl,SqL.of Z,rfl,_,rfl,_,_,rfl,rfl,⟨Y,W⟩,_,rfl,p,_,_,_,rfl,rfl,Z,rfl,?_};refine{_,rfl,?_};exact q _ _ (lX _ (by omega)) (jF _ Y) {_,_,ag} ((But.upd p H _).trans (But.upd p _ _))
 ·refine{_,rfl,p,_,_,_,rfl,rfl,SqL.of hp,rfl,_,rfl,_,_,rfl,rfl,Y,?_};refine{_,rfl,p,_,_,_,rfl,rfl,SqL.of hp,rfl,_,rfl,_,_,rfl,rfl,⟨Y,W⟩,_,rfl,p,_,_,_,rfl,rfl,hp,rfl,?_};refine{_,rfl,?_};exact q _ _ (lX _ (by omega)) (jF _ Y) {_,_,ag} (But.upd p H _)
inductive AO(K:ae)(vs:List V)(H:Hp)(Q:VK)(_e:XK):Prop where
 |mk(a:aa)(ns:List Int)(_:vs=[.ref a])(_:SqL K H a (ns.map V.int))(_:ns.length<=63)(_:(∀x∈ns,fc x<=1048576))(_:∀(p:aa) (H':Hp),H p=none->dE H' p->aV H H'->Q (.ref p) H'):AO K vs H Q _e
def Dv(K:ae):Sp:=fun vs H Q Z=>AO K vs H Q Z
theorem scP:bM ["_law_script","_law_cells","_law_number","_law_k"] ["_law_script"] (aM mT):={}
theorem Kw{xs:List V}{lo hi:Option Int}{v:V}(h:v∈rD xs lo hi):v∈xs:=by
 unfold rD at h;exact rP (Dj h)
theorem Oo{xs:List V}(h:xs≠[])(z:Int):∃v,atI xs (z%(xs.length:Int))=some v/\v∈xs:=by
 have hl:0<xs.length:=EY.mpr h;have h0:=lX z (show (xs.length:Int)≠0 by omega);have h1:=jF z (show (0:Int)<(xs.length:Int) by omega);obtain⟨j,Y⟩:∃j:Nat,z%(xs.length:Int)=(j:Int):={(z%(xs.length:Int)).toNat,by omega};rw[Y]at h1 |-;have Z:j<xs.length:=by omega
 exact{xs[j],ij (aI Z),kH Z}
theorem Ie(D:Df K mg "_law_purse" mT ["_law_script"] f fd)(g:Df K mg "_law_mixed" mR ["_law_cell","_law_k"] fM fdM)(B:Bl mg):bA P w K mg base CX0 2 f fd ["_law_script"] (Dv K):=by
 have GM:bA P w K mg base CX0 1 fM fdM ["_law_cell","_law_k"] Dt:=Ic g;refine D.F.ok scP (fun vs H Q E h=>?_) (fun bt A outer s H vs Q E hr h=>?_)
 ·obtain⟨a,ns,rfl,_⟩:=h;rfl
 obtain⟨a,ns,rfl,hS,J,O,q⟩:=h;refine⟨_,ai (bh (i:=1) scP.nd rfl (Or.inl rfl) (cV FS (sN vt (pv 0) vn (vp aw)) (eA (au aw aj))))
  (ai (bh (i:=2) scP.nd rfl (Or.inl rfl) aw)
  (ai (jo cO rfl (iV rfl B.range (au aw aj)) (dO (i:=3) scP.nd rfl (Or.inl rfl))
   (ay (bh (i:=2) scP.nd rfl (Or.inl rfl) (cV gP (cV rR (pv 2) aw) (aL GM hr rfl g.m g.F.kp g.b .nil bC (au (bP cJ (pv 1) (cV rS (pv 3) (cS ip (by rfl) B.len cA (au (pv 1) aj))) (fun _ _=>rfl)) (au (pv 3) aj)))))))
  (ai (cK (bO eN (cV rS (bP cJ (pv 1) aw (fun _ _=>rfl)) aw) aw (bX _))
   (ay (bN (eA (au (cS (xX rfl) (by rfl) B.max boot_max (au (cV wF (bP cJ (pv 1) aw (fun _ _=>rfl)) aw) (au (cV jS (Fy Bf aw) (cV wF (bP cJ (pv 1) aw (fun _ _=>rfl)) aw)) aj))) (au (pv 2) aj))))) bS)
  (ay (bN (eA (au (pv 2) (au (pv 2) aj)))))))),?_⟩
 -- Y = script[:63] + [0]
 refine{_,rfl,_,rfl,a,_,rfl,hS,fun l hl=>{(by show 1<=aB;decide),fun m hm=>?_}};have bz:l≠m:=av (ag:upd H l (.lst (rD (ns.map V.int) none (some 63))) l=_) hm;have cl:(rD (ns.map V.int) none (some 63)).length<=63:=dA (uK _ _ _) (by rw[ao];exact J);have bv:(rD (ns.map V.int) none (some 63)).length+[V.int 0].length<=aB:=by
  have z:64<=aB:=by decide
  rw[Bx];omega
 refine{l,m,_,_,rfl,rfl,(by rw[aO bz];exact ag),ag,bv,fun c hc=>?_};generalize hcs:rD (ns.map V.int) none (some 63)++[V.int 0]=U at hc |-;have sc:aV H (upd (upd (upd H l (.lst (rD (ns.map V.int) none (some 63)))) m (.lst [.int 0])) c (.lst U)):=(aF hl _).trans ((aF hm _).trans (aF hc _));generalize hH:upd (upd (upd H l (.lst (rD (ns.map V.int) none (some 63)))) m (.lst [.int 0])) c (.lst U)=H1 at sc |-;have W:H1 c=some (.lst U):=by rw[<- hH];exact ag
 have Z:U≠[]:=by rw[<- hcs];simp
 have Y:∀v∈U,∃z:Int,v=.int z/\fc z<=1048576:=fun v hv=>by
  rw[<- hcs]at hv
  rcases bY.mp hv with z|z
  ·obtain⟨n,hn,rfl⟩:=cB.mp (Kw z);exact{n,rfl,O n hn}
  ·rw[aE.mp z];exact{0,rfl,by decide}
 -- number = 1; for k in range(150)
 refine{150,rfl,by decide,by decide,nI (n:=150) (fun i σ H2=>∃(z:Int) (v:Option V),σ=[some (.ref a),some (.ref c),some (.int z),v]/\H2=H1) {1,none,rfl,rfl} ?_ ?_}
 ·rintro i σ H2 hi ⟨z,v,rfl,rfl⟩;obtain⟨u,hu,bB⟩:=Oo Z (0+(i:Int));obtain⟨y,rfl,hy⟩:=Y u bB;have I:(0:Int)<(U.length:Int):=by
   have:=EY.mpr Z;omega
  refine{_,rfl,_,_,rfl,rfl,.inr {by decide,by decide},_,rfl,_,rfl,_,rfl,c,_,rfl,.inl (SqL.of W),_,_,rfl,rfl,I,c,_,_,_,rfl,rfl,SqL.of W,hu,_,rfl,y,_,rfl,hy,fun r=>?_};exact{_,_,rfl,rfl,_,_,rfl,rfl}
 ·rintro σ H2 ⟨z,v,rfl,rfl⟩;obtain⟨t,M⟩:∃t,U[0]?=some t:=by
   cases U with
   |nil=>exact absurd rfl Z
   |cons t r=>exact⟨t,rfl⟩
  obtain⟨y,rfl,hy⟩:=Y t (cq M);have a0:atI U 0=some (.int y):=ij (j:=0) M;refine{_,rfl,c,_,_,_,rfl,rfl,SqL.of W,a0,_,_,rfl,rfl,(by show (0:Int)<2;decide),rfl,_,rfl,?_};have two:Lq y 2:={by decide,by decide};refine gi (fun _=>?_) (fun _=>?_)
  ·refine{_,rfl,c,_,_,_,rfl,rfl,SqL.of W,a0,_,_,rfl,rfl,two,_,rfl,_,rfl,c,_,_,_,rfl,rfl,SqL.of W,a0,_,_,rfl,rfl,two,_,_,rfl,rfl,_,_,rfl,_,rfl,lt2,fun p hp=>?_};exact q p _ (sc.free hp) {_,_,ag} (sc.trans (aF hp _))
  ·refine{_,rfl,_,rfl,lt2,fun p hp=>?_};exact q p _ (sc.free hp) {_,_,ag} (sc.trans (aF hp _))
end
section
variable{X:Cx}{es:List cN}{te:TE}{t:TA}
theorem AQ{Z:List cN}{k:Nat}{p:Pos}{env:Env}:cu (.Tuple Z k p::es) env=(false,fg (.Tuple Z k p) env)::cu es env:=by rfl
theorem zA{Z:List cN}{k:Nat}{p:Pos}(ha:PE X (.Tuple Z k p) te)(hr:PA X es t):PA X (.Tuple Z k p::es) (pI te t):=au ha hr (by rfl)
theorem xi{Z:List cN}{p:Pos}(ha:PE X (.List Z p) te)(hr:PA X es t):PA X (.List Z p::es) (pI te t):=au ha hr (by rfl)
theorem dB{c:Const}{k:Nat}{p:Pos}(ha:PE X (.Constant c k p) te)(hr:PA X es t):PA X (.Constant c k p::es) (pI te t):=au ha hr (by rfl)
theorem bE{x:Str}{p:Pos}(ha:PE X (.Name x p) te)(hr:PA X es t):PA X (.Name x p::es) (pI te t):=au ha hr (by rfl)
theorem jc{g:cN}{Z:List cN}{ks:List OX}{p:Pos}(ha:PE X (.Call g Z ks p) te)(hr:PA X es t):PA X (.Call g Z ks p::es) (pI te t):=au ha hr (by rfl)
theorem l9{a b:cN}{p:Pos}(ha:PE X (.Subscript a b p) te)(hr:PA X es t):PA X (.Subscript a b p::es) (pI te t):=au ha hr (by rfl)
theorem qU{a b:cN}{o:Jf}{p:Pos}(ha:PE X (.BinOp a o b p) te)(hr:PA X es t):PA X (.BinOp a o b p::es) (pI te t):=au ha hr (by rfl)
end
theorem fZ{t:L2.TT}{a b:TS}{D:m5}{σ:St}{H:Hp}(h:t σ H fun c H1=>if c=true then a D σ H1 else b D σ H1):tIfS t a b D σ H:=h
theorem eM.ref{bs qs:List Str}{H:Hp}{d:Dd}{v:V}(h:eM bs qs H d v):∃t,v=.ref t:=by
 cases d<;>simp only[eM]at h
 ·obtain⟨t,_,e,_⟩:=h;exact⟨t,e⟩
 ·obtain⟨t,_,e,_⟩:=h;exact⟨t,e⟩
 ·obtain⟨t,_,e,_⟩:=h;exact⟨t,e⟩
 ·obtain⟨t,_,e,_⟩:=h;exact⟨t,e⟩
 ·obtain⟨t,_,_,_,e,_⟩:=h;exact⟨t,e⟩
 ·obtain⟨t,_,_,_,e,_⟩:=h;exact⟨t,e⟩
 ·obtain⟨t,e,_⟩:=h;exact⟨t,e⟩
theorem Tree.scal{H:Hp}{v:V}(h:BO v):∀n,Tree H n v
 |0=>h
 |_+1=>.inl h
theorem Tree.atup{H:Hp}{a:aa}{xs:List V}{n:Nat}(h:H a=some (.tup xs))(l:xs.length<1000)(k:∀x∈xs,Tree H n x):Tree H (n+1) (.ref a):=.inr {a,xs,rfl,.inr h,l,k}
theorem Tree.alst{H:Hp}{a:aa}{xs:List V}{n:Nat}(h:H a=some (.lst xs))(l:xs.length<1000)(k:∀x∈xs,Tree H n x):Tree H (n+1) (.ref a):=.inr {a,xs,rfl,.inl h,l,k}
theorem jx.tree{bs qs:List Str}{H:Hp}{v:V}{f:Fm}(h:jx bs qs H v f):∀n,f.depth<=n->Tree H n v:=by
 induction h with
 |num h1 _=>exact fun n Z=>match n,Z with
  |n+1,_=>Tree.atup h1 (by show 2<1000;decide) fun x hx=>by
   simp only[ar,aK,or_false]at hx
   rcases hx with rfl|rfl<;>exact Tree.scal (by exact trivial) _
  |0,Z=>absurd Z (by unfold Fm.depth;decide)
 |box h1 _=>exact fun n Z=>match n,Z with
  |n+1,_=>Tree.atup h1 (by show 2<1000;decide) fun x hx=>by
   simp only[ar,aK,or_false]at hx
   rcases hx with rfl|rfl<;>exact Tree.scal (by exact trivial) _
  |0,Z=>absurd Z (by unfold Fm.depth;decide)
 |long h1 _=>exact fun n Z=>match n,Z with
  |n+1,_=>Tree.atup h1 (by show 2<1000;decide) fun x hx=>by
   simp only[ar,aK,or_false]at hx
   rcases hx with rfl|rfl<;>exact Tree.scal (by exact trivial) _
  |0,Z=>absurd Z (by unfold Fm.depth;decide)
 |got h1=>exact fun n Z=>match n,Z with
  |n+1,_=>Tree.atup h1 (by show 2<1000;decide) fun x hx=>by
   simp only[ar,aK,or_false]at hx
   rcases hx with rfl|rfl<;>exact Tree.scal (by exact trivial) _
  |0,Z=>absurd Z (by unfold Fm.depth;decide)
 |now h1=>exact fun n Z=>match n,Z with
  |n+1,_=>Tree.atup h1 (by show 1<1000;decide) fun x hx=>by
   simp only[ar,aK,or_false]at hx
   rcases hx with rfl
   exact Tree.scal (by exact trivial) _
  |0,Z=>absurd Z (by unfold Fm.depth;decide)
 |two h1 _ _ _ Y W=>exact fun n Z=>match n,Z with
  |n+1,Z=>Tree.atup h1 (by show 3<1000;decide) fun x hx=>by
   unfold Fm.depth at Z;simp only[ar,aK,or_false]at hx
   rcases hx with rfl|rfl|rfl
   ·exact Tree.scal (by exact trivial) _
   ·exact Y n (by omega)
   ·exact W n (by omega)
  |0,Z=>absurd Z (by unfold Fm.depth;omega)
mutual
theorem eM.tree{bs qs:List Str}{H:Hp}:∀(d:Dd) (v:V) (n:Nat),eM bs qs H d v->2*d.deep+16<=n->Tree H n v
 |_,_,0,_,Y=>absurd Y (by omega)
 |.put x f,v,n+1,h,Y=>by
  obtain⟨t,u,rfl,h1,h2,Z⟩:=(by simpa only[eM] using h);refine Tree.atup h1 (by show 3<1000;decide) fun y hy=>?_;simp only[ar,aK,or_false]at hy
  rcases hy with rfl|rfl|rfl
  ·exact Tree.scal (by exact trivial) _
  ·exact Tree.scal (by exact trivial) _
  ·exact Z.1.tree n (by have:=Z.2;omega)
 |.push q f,v,n+1,h,Y=>by
  obtain⟨t,u,rfl,h1,h2,Z⟩:=(by simpa only[eM] using h);refine Tree.atup h1 (by show 3<1000;decide) fun y hy=>?_;simp only[ar,aK,or_false]at hy
  rcases hy with rfl|rfl|rfl
  ·exact Tree.scal (by exact trivial) _
  ·exact Tree.scal (by exact trivial) _
  ·exact Z.1.tree n (by have:=Z.2;omega)
 |.pull q x o,v,n+1,h,Y=>by
  obtain⟨t,u,rfl,h1,h2,Z,l,vs,rfl,W,I,J⟩:=(by simpa only[eM] using h);unfold Dd.deep at Y;refine Tree.atup h1 (by show 4<1000;decide) fun y hy=>?_;simp only[ar,aK,or_false]at hy
  rcases hy with rfl|rfl|rfl|rfl
  ·exact Tree.scal (by exact trivial) _
  ·exact Tree.scal (by exact trivial) _
  ·exact Tree.scal (by exact trivial) _
  ·obtain⟨m,rfl⟩:∃m,n=m+1:={n-1,by omega};exact Tree.alst W I (fv.tree o vs m J (by omega))
 |.draw x f,v,n+1,h,Y=>by
  obtain⟨t,u,rfl,h1,h2,Z⟩:=(by simpa only[eM] using h);refine Tree.atup h1 (by show 3<1000;decide) fun y hy=>?_;simp only[ar,aK,or_false]at hy
  rcases hy with rfl|rfl|rfl
  ·exact Tree.scal (by exact trivial) _
  ·exact Tree.scal (by exact trivial) _
  ·exact Z.1.tree n (by have:=Z.2;omega)
 |.send to sg sp rk a b,v,n+1,h,Y=>by
  obtain⟨t,u,u1,u2,rfl,h1,h2,Z,W⟩:=(by simpa only[eM] using h);refine Tree.atup h1 (by show 7<1000;decide) fun y hy=>?_;simp only[ar,aK,or_false]at hy
  rcases hy with rfl|rfl|rfl|rfl|rfl|rfl|rfl
  ·exact Tree.scal (by exact trivial) _
  ·exact Tree.scal (by exact trivial) _
  ·exact Tree.scal (by exact trivial) _
  ·exact h2.1.tree n (by have:=h2.2;omega)
  ·exact Tree.scal (by exact trivial) _
  ·exact Z.1.tree n (by have:=Z.2;omega)
  ·exact W.1.tree n (by have:=W.2;omega)
 |.ife f x y,v,n+1,h,Y=>by
  obtain⟨t,u,u1,u2,rfl,h1,h2,⟨l,vs,rfl,g1,D,M⟩,g,U,rfl,k1,k2,k3⟩:=(by simpa only[eM] using h);unfold Dd.deep at Y;refine Tree.atup h1 (by show 4<1000;decide) fun z O=>?_;simp only[ar,aK,or_false]at O;obtain⟨m,rfl⟩:∃m,n=m+1:={n-1,by omega}
  rcases O with rfl|rfl|rfl|rfl
  ·exact Tree.scal (by exact trivial) _
  ·exact h2.1.tree _ (by have:=h2.2;omega)
  ·exact Tree.alst g1 D (fv.tree x vs m M (by omega))
  ·exact Tree.alst k1 k2 (fv.tree y U m k3 (by omega))
 |.fin,v,n+1,h,Y=>by
  obtain⟨t,rfl,h1⟩:=(by simpa only[eM] using h);refine Tree.atup h1 (by show 1<1000;decide) fun y hy=>?_;simp only[ar,aK,or_false]at hy;rw[hy];exact Tree.scal (by exact trivial) _
theorem fv.tree{bs qs:List Str}{H:Hp}:∀(d:Ds) (vs:List V) (n:Nat),fv bs qs H d vs->2*d.deep+16<=n->∀x∈vs,Tree H n x
 |.nil,vs,n,h,Z=>by
  have e:vs=[]:=by simpa only[fv] using h
  subst e;intro x hx
  cases hx
 |.cons d r,vs,n,h,Z=>by
  obtain⟨v,Y,rfl,h1,h2⟩:=(by simpa only[fv] using h);unfold Ds.deep at Z;intro x hx
  rcases ar.mp hx with rfl|hx
  ·exact eM.tree d _ n h1 (by omega)
  ·exact fv.tree r Y n h2 (by omega) x hx
end
def AR(o:HO):Prop:=(∃xs,o=.tup xs)\/∃xs,o=.lst xs/\∀(i:Int) (r:List V),xs≠.int i::r
def dX(H H':Hp):Prop:=∀a o,H a=some o->AR o->H' a=some o
theorem dX.same{H H':Hp}(s:aV H H'):dX H H':=fun a o e _=>s _ _ e
theorem dX.trans{H H1 H2:Hp}(a:dX H H1)(b:dX H1 H2):dX H H2:=fun c o e n=>b _ _ (a _ _ e n) n
def Kp(own:List aa)(H G:Hp):Prop:=∀b o,H b=some o->b∉own->G b=some o
theorem Kp.refl(own:List aa)(H:Hp):Kp own H H:=fun _ _ e _=>e
theorem Kp.trans{own:List aa}{H G G':Hp}(a:Kp own H G)(b:Kp own G G'):Kp own H G':=fun c o e n=>b c o (a c o e n) n
theorem Kp.same{own:List aa}{H G:Hp}(s:aV H G):Kp own H G:=fun c o e _=>s _ _ e
theorem Kp.but{own:List aa}{H G:Hp}{p:aa}(s:But p H G)(m:p∈own):Kp own H G:=fun c o e n=>s _ _ e fun z=>n (by rw[z];exact m)
theorem Kp.upd{own:List aa}{H:Hp}{a:aa}{o:HO}(m:a∈own):Kp own H (upd H a o):=fun c u e n=>by
 rw[aO fun z=>n (by rw[z];exact m)];exact e
theorem Kp.keepI{own:List aa}{H G:Hp}(k:Kp own H G)(h:∀a∈own,∃(i:Int) (r:List V),H a=some (.lst (.int i::r))):dX H G:=fun a o e n=>k a o e fun m=>by
 obtain⟨i,r,q⟩:=h a m;rw[q]at e
 cases e
 rcases n with⟨xs,n⟩|⟨xs,n,y⟩
 ·cases n
 ·cases n;exact y i r rfl
theorem dX.but{H H':Hp}{p:aa}(pu:dE H p)(b:But p H H'):dX H H':=Kp.keepI (own:=[p]) (Kp.but b aC) fun a m=>by
 obtain⟨x,y,h⟩:=pu;rw[aE.mp m];exact{x,_,h}
theorem pC(xs:List V):AR (.tup xs):=.inl ⟨xs,rfl⟩
theorem Dw(Z:List Str):AR (.lst (Z.map V.str)):=.inr ⟨_,rfl,fun i r z=>by
 cases Z with
 |nil=>cases z
 |cons x xs=>cases z⟩
theorem FmI.keepI{bs qs:List Str}{H H':Hp}(k:dX H H'){v:V}{f:Fm}(h:FmI bs qs H v f):FmI bs qs H' v f:={h.1.mono fun t xs e=>k _ _ e (pC xs),h.2}
theorem fv.ni{bs qs:List Str}{H:Hp}{d:Ds}{vs:List V}(h:fv bs qs H d vs):AR (.lst vs):=.inr ⟨vs,rfl,fun i r z=>by
 subst z
 cases d with
 |nil=>
  simp only[fv]at h
  cases h
 |cons d r=>
  obtain⟨v,Z,e,h1,_⟩:=(by simpa only[fv] using h)
  cases e;obtain⟨t,e⟩:=h1.ref
  cases e⟩
def Tk(H H':Hp):Prop:=∀(t:aa) (xs:List V),H t=some (.tup xs)->H' t=some (.tup xs)
def Nk(H H' H2:Hp):Prop:=∀(l:aa) (xs:List V),H l=none->AR (.lst xs)->H' l=some (.lst xs)->H2 l=some (.lst xs)
def OwD(bs qs:List Str)(H H':Hp)(d:Dd)(v:V):Prop:=∀H2,Tk H' H2->Nk H H' H2->eM bs qs H2 d v
def OwS(bs qs:List Str)(H H':Hp)(d:Ds)(vs:List V):Prop:=∀H2,Tk H' H2->Nk H H' H2->fv bs qs H2 d vs
theorem Tk.refl(H:Hp):Tk H H:=fun _ _ e=>e
theorem Nk.refl(H H':Hp):Nk H H' H':=fun _ _ _ _ e=>e
theorem OwS.now{bs qs:List Str}{H H':Hp}{d:Ds}{v:List V}(h:OwS bs qs H H' d v):fv bs qs H' d v:=h H' (Tk.refl _) (Nk.refl _ _)
theorem dX.tk{H H':Hp}(k:dX H H'):Tk H H':=fun t xs e=>k _ _ e (pC xs)
theorem dX.nk{H H1 H' H2:Hp}(k:dX H' H1)(n:Nk H H1 H2):Nk H H' H2:=fun l xs h i e=>n l xs h i (k _ _ e i)
theorem OwS.keepI{bs qs:List Str}{H H' H1:Hp}{d:Ds}{v:List V}(h:OwS bs qs H H' d v)(k:dX H' H1):OwS bs qs H H1 d v:=fun H2 t n=>h H2 (fun a xs e=>t a xs (k.tk a xs e)) (k.nk n)
def Dm(H G:Hp):Prop:=∀a,G a=none->H a=none
theorem Dm.same{H G:Hp}(s:aV H G):Dm H G:=fun a n=>none_of s n
theorem Dm.trans{H G G':Hp}(a:Dm H G)(b:Dm G G'):Dm H G':=fun x n=>a x (b x n)
theorem OwD.base{bs qs:List Str}{H H0 H':Hp}{d:Dd}{v:V}(h:OwD bs qs H H' d v)(s:Dm H0 H):OwD bs qs H0 H' d v:=fun H2 t n=>h H2 t fun l xs hl i e=>n l xs (s l hl) i e
theorem OwS.base{bs qs:List Str}{H H0 H':Hp}{d:Ds}{v:List V}(h:OwS bs qs H H' d v)(s:Dm H0 H):OwS bs qs H0 H' d v:=fun H2 t n=>h H2 t fun l xs hl i e=>n l xs (s l hl) i e
theorem OwD.old{bs qs:List Str}{H H':Hp}{d:Dd}{v:V}{a:aa}{o:HO}(h:OwD bs qs H H' d v)(ol:H a≠none)(nt:∀xs,H' a≠some (.tup xs)):OwD bs qs H (upd H' a o) d v:=fun H2 t n=>h H2 (fun b xs e=>t b xs (by rw[aO (fun z=>nt xs (by rw[<- z];exact e))];exact e)) fun l xs hl i e=>n l xs hl i (by rw[aO (fun z=>ol (by rw[<- z];exact hl))];exact e)
theorem OwS.old{bs qs:List Str}{H H':Hp}{d:Ds}{v:List V}{a:aa}{o:HO}(h:OwS bs qs H H' d v)(ol:H a≠none)(nt:∀xs,H' a≠some (.tup xs)):OwS bs qs H (upd H' a o) d v:=fun H2 t n=>h H2 (fun b xs e=>t b xs (by rw[aO (fun z=>nt xs (by rw[<- z];exact e))];exact e)) fun l xs hl i e=>n l xs hl i (by rw[aO (fun z=>ol (by rw[<- z];exact hl))];exact e)
theorem FmI.tk{bs qs:List Str}{H H2:Hp}{v:V}{F:Fm}(h:FmI bs qs H v F)(t:Tk H H2):FmI bs qs H2 v F:={h.1.mono t,h.2}
section
variable{bs qs:List Str}{H H':Hp}{t:aa}{u u1 u2:V}{F F1 F2:Fm}{x q:Str}
theorem Oq(h:H' t=some (.tup [.str "put",.str x,u]))(m:x∈bs)(f:FmI bs qs H' u F):OwD bs qs H H' (.put x F) (.ref t):=fun H2 k _=>by simp only[eM];exact{t,u,rfl,k _ _ h,m,f.tk k}
theorem Kx(h:H' t=some (.tup [.str "push",.str q,u]))(m:q∈qs)(f:FmI bs qs H' u F):OwD bs qs H H' (.push q F) (.ref t):=fun H2 k _=>by simp only[eM];exact{t,u,rfl,k _ _ h,m,f.tk k}
theorem Ky(h:H' t=some (.tup [.str "draw",.str x,u]))(m:x∈bs)(f:FmI bs qs H' u F):OwD bs qs H H' (.draw x F) (.ref t):=fun H2 k _=>by simp only[eM];exact{t,u,rfl,k _ _ h,m,f.tk k}
theorem Os(h:H' t=some (.tup [.str "end"])):OwD bs qs H H' .fin (.ref t):=fun H2 k _=>by simp only[eM];exact{t,rfl,k _ _ h}
theorem Kz{to rk:Int}{sg:Str}(h:H' t=some (.tup [.str "send",.int to,.str sg,u,.int rk,u1,u2]))(f:FmI bs qs H' u F)(f1:FmI bs qs H' u1 F1)(Z:FmI bs qs H' u2 F2):OwD bs qs H H' (.send to sg F rk F1 F2) (.ref t):=fun H2 k _=>by simp only[eM];exact{t,u,u1,u2,rfl,k _ _ h,f.tk k,f1.tk k,Z.tk k}
theorem KA{l:aa}{xs:List V}{d:Ds}(h:H' t=some (.tup [.str "pull",.str q,.str x,.ref l]))(Z:q∈qs)(Y:x∈bs)(hl:H l=none)(e:H' l=some (.lst xs))(z:xs.length<1000)(D:OwS bs qs H H' d xs):OwD bs qs H H' (.pull q x d) (.ref t):=fun H2 k n=>by
 simp only[eM];exact{t,.ref l,rfl,k _ _ h,Z,Y,l,xs,rfl,n l xs hl D.now.ni e,z,D H2 k n}
theorem Ot{l Z:aa}{xs ys:List V}{d d':Ds}(h:H' t=some (.tup [.str "if",u,.ref l,.ref Z]))(f:FmI bs qs H' u F)(hl:H l=none)(e:H' l=some (.lst xs))(z:xs.length<1000)(D:OwS bs qs H H' d xs)(Y:H Z=none)(U:H' Z=some (.lst ys))(O:ys.length<1000)(W:OwS bs qs H H' d' ys):OwD bs qs H H' (.ife F d d') (.ref t):=fun H2 k n=>by
 simp only[eM];exact{t,u,.ref l,.ref Z,rfl,k _ _ h,f.tk k,{l,xs,rfl,n l xs hl D.now.ni e,z,D H2 k n},Z,ys,rfl,n Z ys Y W.now.ni U,O,W H2 k n}
theorem KB:OwS bs qs H H' .nil []:=fun _ _ _=>by simp only[fv]
end
def abc:Str:="abcdefghijklmnopqrstuvwxyz"
theorem Dx:abc.cps.toList.length=26:=by decide +kernel
theorem yA:abc.length<=aB:=by decide +kernel
theorem Ou{z:Int}(h0:0<=z)(h1:z<26):∃c,atI abc.cps.toList z=some c:=by
 obtain⟨j,rfl⟩:∃j:Nat,z=(j:Int):={z.toNat,by omega};have l:j<abc.cps.toList.length:=by rw[Dx];omega
 exact{abc.cps.toList[j],ij (aI l)}
theorem AS(x y:Str):(x++y).length=x.length+y.length:=by
 show (x++y).cps.size=x.cps.size+y.cps.size;show (x.cps++y.cps).size=_;rw[Array.size_append]
theorem uw{n:Nat}{W:TE}{g:TG}{tc:L2.TT}{te:TE}{σ:St}{H:Hp}{Q:VK}(P:Nat->Hp->Prop)(hi:∀R:VK,(∀(m:Nat) (H1:Hp),P m H1->R (.int m) H1)->W σ H R)(hb:∀m H1,P m H1->m<1000)(Z:Nat->Hp->Nat->List V->Hp->Prop)(h0:∀m H1,P m H1->Z m H1 0 [] H1)(hl:∀m H1,P m H1->∀i ys H,i<=m->Z m H1 i ys H->ys.length<aB)
  (hs:∀m H1,P m H1->∀i ys H,i<m->Z m H1 i ys H->g (.int (0+i)) (cD n none++σ) H fun Y H2=>Y.drop n=σ/\tc Y H2 fun b U=>if b=true then te Y U fun y O=>Z m H1 (i+1) (ys++[y]) O else Z m H1 (i+1) ys U)
  (hd:∀m H1,P m H1->∀ys H,Z m H1 m ys H->∀p,H p=none->Q (.ref p) (upd H p (.lst ys))):uM n (Fx (pI W Bm)) g tc te σ H Q:=
 hi _ fun m H1 p=>⟨(m:Int),rfl,by have:=hb m H1 p;omega,by have:=hb m H1 p;omega,by
  rw[uY];exact GY (Z m H1) (h0 m H1 p) (hl m H1 p) (hs m H1 p) (hd m H1 p)⟩
theorem ux{p:aa}{G:Hp}{a:aa}(h:dE G p)(n:G a=none):a≠p:=by
 obtain⟨x,y,e⟩:=h;exact (av e n).symm
theorem uy{p:aa}{G:Hp}(h:dE G p){a:aa}{o:HO}(n:a≠p):dE (upd G a o) p:=by
 obtain⟨x,y,e⟩:=h;exact{x,y,by rw[aO n.symm];exact e}
theorem xj{K:ae}{n:Nat}{W:TE}{g:TG}{tc:L2.TT}{te:TE}{σ:St}{H:Hp}{Q:VK}{a:aa}{xs:List V}(hi:∀R:VK,R (.ref a) H->W σ H R)(hx:SqL K H a xs)(Z:Nat->List V->Hp->Prop)(h0:Z 0 [] H)(hl:∀i ys H,i<=xs.length->Z i ys H->SqL K H a xs/\ys.length<aB)
  (hs:∀i x ys H,xs[i]?=some x->Z i ys H->g x (cD n none++σ) H fun Y H2=>Y.drop n=σ/\tc Y H2 fun b U=>if b=true then te Y U fun y O=>Z (i+1) (ys++[y]) O else Z (i+1) ys U)
  (hd:∀ys H,Z xs.length ys H->∀p,H p=none->Q (.ref p) (upd H p (.lst ys))):uM n (Fv K W) g tc te σ H Q:=
 hi _ {a,rfl,⟨xs,hx⟩,t8 Z h0 hl hs hd}
section
variable{P:aN}{w:bL}{K:ae}{mg:Str->Option af}{base:cz}{f fD:aa}{fd fdD:bR}
seal PS PSs PE PA PT PW PI PG PGs PC
abbrev pD:List Str:=["_law_purse_here","_law_out_of"]
abbrev nW:List Str:=["_law_purse_here"]
abbrev pW:List Str:=["_law_purse_here"]
theorem scW:bM nW pW (aM fX):={}
def vK:Sp:=fun vs H Q _=>∃p:aa,vs=[.ref p]/\dE H p/\∀(r:Int) (H':Hp),-(10^15)<=r->r<=10^15->dE H' p->But p H H'->Q (.int r) H'
theorem xk(D:Df K mg "_law_worth" fX pW f fd)(Z:Df K mg "_law_draw" dY pD fD fdD)(B:Bl mg):bA P w K mg base CX0 2 f fd pW vK:=by
 have O:bA P w K mg base CX0 1 fD fdD pD jt:=jm Z;refine D.F.ok scW (fun vs H Q E h=>?_) (fun z A outer s H vs Q E hr h=>?_)
 ·obtain⟨p,rfl,_⟩:=h;rfl
 obtain⟨p,rfl,pu,q⟩:=h;have r1:cQ 1 _:=hr;refine⟨_,ai (cK (bO eN (aL O r1 (by rfl) Z.m Z.F.kp Z.b .nil bC (bE (pv 0) (dB aw aj))) aw (bX _)) (ay (bN (cV jS (aL O r1 (by rfl) Z.m Z.F.kp Z.b .nil bC (bE (pv 0) (qU (cV gP (cV rR aw (cV tU aw aw)) aw) aj))) (cV tU aw aw)))) bS)
  (ay (bN (cV jS (aL O r1 (by rfl) Z.m Z.F.kp Z.b .nil bC (bE (pv 0) (dB aw aj))) aw))),?_⟩
 have U:Ei 10 15:={by decide,by decide,by decide};have Y:(10:Int)^(15:Int).toNat=1000000000000000:=by decide
 have I:(10:Int)^15=1000000000000000:=by decide
 refine cg (fZ {_,rfl,p,6,rfl,pu,by decide,by decide,fun r G r0 r6 V J=>?_});refine{rfl,_,rfl,gi (fun _=>?_) (fun _=>?_)}
 ·refine eS {_,rfl,_,_,rfl,rfl,U,_,_,rfl,rfl,.inl {by decide,by decide},_,_,rfl,rfl,p,_,rfl,V,by decide,by decide,fun x t g x1 W M=>{_,_,rfl,rfl,U,_,_,rfl,rfl,q _ _ ?_ ?_ W (J.trans M)}}
  ·rw[Y];omega
  ·have x1:x<2*(10:Int)^(15:Int).toNat+1:=x1;rw[Y]at x1;rw[Y];omega
 ·dsimp only[j6];refine eS {_,rfl,p,13,rfl,V,by decide,by decide,fun x t g x1 W M=>{_,_,rfl,rfl,q _ _ (by omega) (by omega) W (J.trans M)}}
end
structure Lf(H:Hp)(p lf:aa):Prop where
 pu:dE H p
 hl:∃k:Int,H lf=some (.lst [.int k])
theorem Lf.int{H:Hp}{p Z:aa}(h:Lf H p Z):∀a∈[p,Z],∃(i:Int) (r:List V),H a=some (.lst (.int i::r)):=fun a m=>by
 obtain⟨x,y,e⟩:=h.pu;obtain⟨z,Y⟩:=h.hl
 rcases ar.mp m with rfl|m
 ·exact{x,_,e}
 ·rw[aE.mp m];exact{z,_,Y}
theorem Lf.ne{H:Hp}{p Z:aa}(h:Lf H p Z):Z≠p:=by
 obtain⟨x,y,e⟩:=h.pu;obtain⟨z,Y⟩:=h.hl;exact pG Y e (by intro q;cases q)
theorem Lf.but{H H':Hp}{p Z:aa}(h:Lf H p Z)(b:But p H H')(pu:dE H' p):Lf H' p Z:=by
 obtain⟨z,Y⟩:=h.hl;exact{pu,z,b _ _ Y h.ne}
theorem Lf.same{H H':Hp}{p Z:aa}(h:Lf H p Z)(s:aV H H'):Lf H' p Z:=by
 obtain⟨z,Y⟩:=h.hl;exact{h.pu.same s,z,s _ _ Y}
def qV:Ds->Dd->Ds
 |.nil,d=>.cons d .nil
 |.cons a r,d=>.cons a (qV r d)
theorem Dy{bs qs:List Str}{H:Hp}{d:Dd}{v:V}(hd:eM bs qs H d v):∀(ds:Ds) (xs:List V),fv bs qs H ds xs->fv bs qs H (qV ds d) (xs++[v])
 |.nil,xs,h=>by
  have e:xs=[]:=by simpa only[fv] using h
  subst e;unfold qV;simp only[fv];exact{v,[],rfl,hd,rfl}
 |.cons a r,xs,h=>by
  obtain⟨u,Z,rfl,h1,h2⟩:=(by simpa only[fv] using h);unfold qV;simp only[fv];exact{u,Z++[v],rfl,h1,Dy hd r Z h2}
theorem Dz{m:Int}{d:Dd}(hd:d.toOk m):∀ds:Ds,ds.toOk m->(qV ds d).toOk m
 |.nil,_=>⟨hd,trivial⟩
 |.cons a r,h=>{h.1,Dz hd r h.2}
theorem yB(d:Dd):∀ds:Ds,(qV ds d).deep=max ds.deep d.deep
 |.nil=>by
  show max d.deep 0=max 0 d.deep;exact Nat.max_comm _ _
 |.cons a r=>by
  show max a.deep (qV r d).deep=max (max a.deep r.deep) d.deep;rw[yB d r];exact (Nat.max_assoc _ _ _).symm
theorem yC(d:Dd):∀ds:Ds,(qV ds d).size=ds.size+d.size
 |.nil=>by
  show d.size+0=0+d.size;omega
 |.cons a r=>by
  show a.size+(qV r d).size=a.size+r.size+d.size;rw[yC d r];omega
theorem Ig{bs qs:List Str}{H H':Hp}{ds:Ds}{xs:List V}{d:Dd}{v:V}(a:OwS bs qs H H' ds xs)(b:OwD bs qs H H' d v):OwS bs qs H H' (qV ds d) (xs++[v]):=fun H2 k n=>Dy (b H2 k n) ds xs (a H2 k n)
theorem KC:∀n,1<=ddz n
 |0=>aD _
 |n+1=>by
  show 1<=1+6*ddz n;omega
theorem Kp.dm{own:List aa}{H G:Hp}(k:Kp own H G)(h:∀a∈own,∃o,G a=some o):Dm H G:=fun a n=>by
 cases e:H a with
 |none=>rfl
 |some o=>
  by_cases m:a∈own
  ·obtain⟨u,q⟩:=h a m;rw[q]at n
   cases n
  ·rw[k a o e m]at n
   cases n
theorem Lf.there{H:Hp}{p Z:aa}(h:Lf H p Z):∀a∈[p,Z],∃o,H a=some o:=fun a m=>by
 obtain⟨i,r,e⟩:=h.int a m;exact{_,e}
def HsO(bs qs:List Str)(H H':Hp)(v:V)(q:Str×Ds):Prop:=∃t l xs,v=.ref t/\H' t=some (.tup [.str q.1,.ref l])/\H l=none/\H' l=some (.lst xs)/\xs.length<1000/\OwS bs qs H H' q.2 xs
theorem HsO.keepI{bs qs:List Str}{H H' H1:Hp}{v:V}{q:Str×Ds}(k:dX H' H1)(h:HsO bs qs H H' v q):HsO bs qs H H1 v q:=by
 obtain⟨t,l,xs,e,h1,h2,W,Y,Z⟩:=h;exact{t,l,xs,e,k _ _ h1 (pC _),h2,k _ _ W Z.now.ni,Y,Z.keepI k}
theorem HsO.old{bs qs:List Str}{H H':Hp}{v:V}{q:Str×Ds}{a:aa}{o:HO}(h:HsO bs qs H H' v q)(ol:H a≠none)(nt:∀xs,H' a≠some (.tup xs)):HsO bs qs H (upd H' a o) v q:=by
 obtain⟨t,l,xs,e,h1,h2,W,Z,Y⟩:=h;exact{t,l,xs,e,aS h1 (fun z=>nt _ (by rw[<- z];exact h1)),h2,aS W (fun z=>ol (by rw[<- z];exact h2)),Z,Y.old ol nt}
theorem HsO.base{bs qs:List Str}{H H0 H':Hp}{v:V}{q:Str×Ds}(h:HsO bs qs H H' v q)(s:Dm H0 H):HsO bs qs H0 H' v q:=by
 obtain⟨t,l,xs,e,h1,h2,W,Z,Y⟩:=h;exact{t,l,xs,e,h1,s l h2,W,Z,Y.base s}
structure Mch(m:Int)(H H':Hp)(t:aa)(nm:Str)(bs qs:List Str)(ds:List Int)(hs:List (Str×Ds))(ps:List (Str×Int)):Prop where
 ex:∃(bl ql dl hl:aa) (vb hv:List V),H' t=some (.tup [.str nm,.ref bl,.ref ql,.ref dl,.ref hl])/\H' bl=some (.lst vb)/\gO H' ps vb/\H' ql=some (.lst (qs.map V.str))/\H' dl=some (.lst (ds.map V.int))/\H' hl=some (.lst hv)/\aP (HsO bs qs H H') hv hs/\H bl=none/\H ql=none/\H dl=none/\H hl=none
 kb:ps.map (·.1)=bs
 nb:bs.Nodup
 nq:qs.Nodup
 lb:bs.length<=9
 lq:qs.length<=9
 ld:ds.length<=100
 lh:hs.length<=9
 wb:∀q∈ps,Wo q.2
 hk:∀q∈hs,q.2.toOk m/\q.2.deep<=4/\q.2.size<=3*ddz 4
def MIn(m:Int)(H H':Hp)(v:V)(M:MD):Prop:=∃t,v=.ref t/\Mch m H H' t M.nm M.bs M.qs M.ds M.hs M.ps
theorem Mch.but{m:Int}{H H' H1:Hp}{t p:aa}{nm:Str}{bs qs:List Str}{ds:List Int}{hs:List (Str×Ds)}{ps:List (Str×Int)}(Z:dE H p)(pu:dE H' p)(b:But p H' H1)(h:Mch m H H' t nm bs qs ds hs ps):Mch m H H1 t nm bs qs ds hs ps:=by
 have k:=dX.but pu b;have np:∀{a:aa},H a=none->a≠p:=fun {a} e z=>by
  obtain⟨x,y,q⟩:=Z;rw[z,q]at e
  cases e
 obtain⟨⟨bl,ql,dl,hl,J,hv,h1,h2,D,U,I,M,O,f1,W,Y,V⟩,kb,nb,nq,lb,lq,ld,lh,wb,hk⟩:=h;exact{{bl,ql,dl,hl,J,hv,k _ _ h1 (pC _),b _ _ h2 (np f1),gO.tups (fun a xs e=>k _ _ e (pC xs)) D,b _ _ U (np W),b _ _ I (np Y),b _ _ M (np V),Paired.mono (fun v q z=>HsO.keepI k z) O,f1,W,Y,V},kb,nb,nq,lb,lq,ld,lh,wb,hk}
theorem Mch.same{m:Int}{H H' H1:Hp}{t:aa}{nm:Str}{bs qs:List Str}{ds:List Int}{hs:List (Str×Ds)}{ps:List (Str×Int)}(b:aV H' H1)(h:Mch m H H' t nm bs qs ds hs ps):Mch m H H1 t nm bs qs ds hs ps:=by
 obtain⟨⟨bl,ql,dl,hl,O,hv,h1,h2,I,W,M,U,V,f1,Y,Z,J⟩,kb,nb,nq,lb,lq,ld,lh,wb,hk⟩:=h;exact{{bl,ql,dl,hl,O,hv,b _ _ h1,b _ _ h2,gO.same b I,b _ _ W,b _ _ M,b _ _ U,Paired.mono (fun v q z=>HsO.keepI (dX.same b) z) V,f1,Y,Z,J},kb,nb,nq,lb,lq,ld,lh,wb,hk}
theorem Mch.base{m:Int}{H0 H H':Hp}{t:aa}{nm:Str}{bs qs:List Str}{ds:List Int}{hs:List (Str×Ds)}{ps:List (Str×Int)}(s:Dm H0 H)(h:Mch m H H' t nm bs qs ds hs ps):Mch m H0 H' t nm bs qs ds hs ps:=by
 obtain⟨⟨bl,ql,dl,hl,O,hv,h1,h2,I,W,M,U,V,f1,Y,Z,J⟩,kb,nb,nq,lb,lq,ld,lh,wb,hk⟩:=h;exact{{bl,ql,dl,hl,O,hv,h1,h2,I,W,M,U,Paired.mono (fun v q z=>HsO.base z s) V,s _ f1,s _ Y,s _ Z,s _ J},kb,nb,nq,lb,lq,ld,lh,wb,hk}
theorem But.dm{p:aa}{H G:Hp}(b:But p H G)(pu:dE G p):Dm H G:=fun a n=>by
 cases e:H a with
 |none=>rfl
 |some o=>
  by_cases c:a=p
  ·obtain⟨x,y,q⟩:=pu;rw[c,q]at n
   cases n
  ·rw[b a o e c]at n
   cases n
theorem tG{H:Hp}:∀{ps:List (Str×Int)} {vs:List V},gO H ps vs->aP (fun v (x:Str)=>∃a n,v=.ref a/\H a=some (.tup [.str x,n])) vs (ps.map (·.1))
 | [],_,h=>by
  cases h;exact .nil
 |p::ps,_,h=>by
  cases h with
  |cons a b=>
   obtain⟨t,e,h⟩:=a;exact .cons {t,_,e,h} (tG (ps:=ps) b)
theorem pE{Z:Type}{R:V->Z->Prop}:∀{xs:List V} {Y:List Z},aP R xs Y->∀x∈xs,∃a∈Y,R x a
 |_,_,.nil,_,h=>by cases h
 |_,_,.cons a b,x,h=>by
  rcases ar.mp h with z|z
  ·exact{_,aC,by rw[z];exact a}
  ·obtain⟨c,hc,r⟩:=pE b x z;exact{c,ah _ hc,r}
theorem MIn.moI{m:Int}{H H':Hp}{v:V}{M:MD}(h:MIn m H H' v M):MoI m H' v M:=by
 obtain⟨t,rfl,⟨bl,ql,dl,hl,Y,hv,h1,h2,W,Z,D,I,J,f1,f2,f3,f4⟩,kb,nb,nq,lb,lq,ld,lh,wb,hk⟩:=h;refine{{t,bl,ql,dl,hl,_,Y,hv,rfl,h1,h2,by rw[<- kb];exact tG W,Z,D,I,Paired.mono (fun v q z=>?_) J},{t,bl,ql,_,_,_,Y,rfl,h1,h2,W,Z},kb,nb,nq,lb,lq,ld,lh,wb,hk};obtain⟨u,l,xs,e,g1,g2,g,U,O⟩:=z;exact{u,.ref l,e,g1,l,xs,rfl,g,U,O.now}
theorem MIn.tree{m:Int}{H H':Hp}{v:V}{M:MD}(h:MIn m H H' v M):Tree H' 28 v:=by
 obtain⟨t,rfl,⟨bl,ql,dl,hl,vb,hv,h1,h2,W,D,J,g,Y,f1,f2,f3,f4⟩,kb,nb,nq,lb,lq,ld,lh,wb,hk⟩:=h;have O:M.ps.length<=9:=by
  have:=congrArg jy kb;rw[ao]at this;omega
 refine Tree.atup h1 (by show 5<1000;decide) fun y hy=>?_;simp only[ar,aK,or_false]at hy
 rcases hy with rfl|rfl|rfl|rfl|rfl
 ·exact Tree.scal (by exact trivial) _
 ·exact Tree.alst h2 (by rw[<- W.length];omega) fun z Z=>W.tree (n:=25) z Z
 ·refine Tree.alst D (by rw[ao];omega) fun z Z=>?_;obtain⟨x,_,rfl⟩:=cB.mp Z;exact Tree.scal (by exact trivial) _
 ·refine Tree.alst J (by rw[ao];omega) fun z Z=>?_;obtain⟨x,_,rfl⟩:=cB.mp Z;exact Tree.scal (by exact trivial) _
 ·refine Tree.alst g (by rw[aZ Y];omega) fun z Z=>?_;obtain⟨q,hq,u,l,xs,rfl,g1,g2,g3,U,I⟩:=pE Y z Z;refine Tree.atup g1 (by show 2<1000;decide) fun y hy=>?_;simp only[ar,aK,or_false]at hy
  rcases hy with rfl|rfl
  ·exact Tree.scal (by exact trivial) _
  ·exact Tree.alst g3 U fun z Z=>fv.tree q.2 xs 24 I.now (by have:=(hk q hq).2.1;omega) z Z
theorem B1.alike{H H':Hp}{v O:V}{M:MD}(h:B1 H v M)(D:Alike H H' 28 v O):B1 H' O M:=by
 obtain⟨t,bl,ql,n0,x3,x4,vb,rfl,h1,h2,I,h4⟩:=h;obtain⟨t',g,rfl,W,Z⟩:=ug h1 D;obtain⟨z0,Y,rfl,a0,Z⟩:=dJ Z;obtain⟨z1,Y,rfl,a1,Z⟩:=dJ Z;obtain⟨z2,Y,rfl,a2,Z⟩:=dJ Z;obtain⟨z3,Y,rfl,a3,Z⟩:=dJ Z;obtain⟨z4,Y,rfl,a4,Z⟩:=dJ Z;obtain rfl:=oC Z;obtain⟨b',U,rfl,c1,d1⟩:=oo h2 a1;obtain⟨q',vq,rfl,J,d2⟩:=oo h4 a2;rw[iZ d2 (by intro x hx;obtain⟨z,_,rfl⟩:=cB.mp hx;exact trivial)]at J;exact{t',b',q',z0,z3,z4,U,rfl,W,c1,I.alike d1,J}
theorem DG{m:Int}{H0 H:Hp}{Z:aa}{xs:List V}{Ms:List MD}(h:H Z=some (.lst xs))(p:aP (MIn m H0 H) xs Ms)(l:Ms.length<1000):Tree H 29 (.ref Z):=
 Tree.alst h (by rw[aZ p];exact l) fun x hx=>by
  obtain⟨M,_,z⟩:=pE p x hx;exact z.tree
theorem KD{m:Int}{H0 H H2:Hp}{W:aa}{xs:List V}{Ms:List MD}{Y:V}(h:H W=some (.lst xs))(p:aP (MIn m H0 H) xs Ms)(U:Alike H H2 29 (.ref W) Y):∃Z,Y=.ref Z/\zv m H2 Z Ms:=by
 obtain⟨Z,ys,rfl,h1,O⟩:=oo h U;refine{Z,rfl,ys,h1,q9 (R:=MIn m H0 H) (S:=Alike H H2 28) (T:=Tree H 28) (fun v M Y a b c=>?_) p O fun x hx=>?_}
 ·have z:=a.moI;exact{z.ma.alike c b,z.fs.alike b,z.kb,z.nb,z.nq,z.lb,z.lq,z.ld,z.lh,z.wb,z.hk}
 ·obtain⟨M,_,z⟩:=pE p x hx;exact z.tree
theorem Ov:abc.cps.toList.Nodup:=by decide +kernel
def GN(b:Nat)(Z:List Str):Prop:=∀i s,Z[i]?=some s->∃c,abc.cps.toList[b+i]?=some c/\s.cps.toList[0]?=some c
theorem KF{i j:Nat} {c} (hi:abc.cps.toList[i]?=some c) (Z:abc.cps.toList[j]?=some c):i=j:=by
 have li:=(aG.mp hi).1;exact (List.getElem?_inj li Ov).mp (hi.trans Z.symm)
theorem KG{n:Nat}(h1:n<26):∃c,abc.cps.toList[n]?=some c/\atI abc.cps.toList (n:Int)=some c:=by
 have l:n<abc.cps.toList.length:=by rw[Dx];omega
 exact{abc.cps.toList[n],aI l,ij (aI l)}
theorem GN.nodup{b:Nat}{Z:List Str}(h:GN b Z):Z.Nodup:=by
 refine dC.mpr fun i j li V W e=>?_;obtain⟨c,a1,a2⟩:=h i _ (aI li);obtain⟨d,U,Y⟩:=h j _ (aI V);rw[<- e,a2]at Y
 cases Y;have z:=KF a1 U;omega
theorem GN.snoc{b:Nat}{Z:List Str}{s:Str} {c} (h:GN b Z) (h2:abc.cps.toList[b+Z.length]?=some c) (V:s.cps.toList[0]?=some c):GN b (Z++[s]):=by
 intro i x e
 by_cases hi:i<Z.length
 ·rw[eO hi]at e;exact h i x e
 ·rw[df (by omega)]at e;obtain⟨W,_⟩:=aG.mp e;have W:i-Z.length<1:=W;have Y:i=Z.length:=by omega
  subst Y;rw[mH]at e
  cases e;exact⟨c,h2,V⟩
theorem zB{x y:Str} {c} (h:x.cps.toList[0]?=some c):(x++y).cps.toList[0]?=some c:=by
 show (x.cps++y.cps).toList[0]?=some c;rw[Array.toList_append,eO (aG.mp h).1];exact h
section
variable{P:aN}{w:bL}{K:ae}{mg:Str->Option af}{base:cz}{f fD fNm:aa}{fd fdD fdNm:bR}
seal PS PSs PE PA PT PW PI PG PGs PC
abbrev nNm:List Str:=["_law_purse_here","_law_long","_law_word","_law_k"]
abbrev pNm:List Str:=["_law_purse_here","_law_long"]
theorem KH:bM nNm pNm (aM o9):={}
inductive L0(vs:List V)(H:Hp)(Q:VK)(_e:XK):Prop where
 |mk(p:aa)(n:Int)(_:vs=[.ref p,.int n])(_:dE H p)(_:0<n)(_:n<=9)(_:∀(s:Str) (H':Hp),s.length<=9->dE H' p->But p H H'->Q (.str s) H'):L0 vs H Q _e
def spNm:Sp:=fun vs H Q Z=>L0 vs H Q Z
theorem ok_nm(D:Df K mg "_law_name" o9 pNm f fd)(Y:Df K mg "_law_draw" dY pD fD fdD)(B:Bl mg):bA P w K mg base CX0 2 f fd pNm spNm:=by
 have O:bA P w K mg base CX0 1 fD fdD pD jt:=jm Y;refine D.F.ok KH (fun vs H Q E h=>?_) (fun M A outer s H vs Q E hr h=>?_)
 ·obtain⟨p,n,rfl,_⟩:=h;rfl
 obtain⟨p,n,rfl,pu,t,n9,q⟩:=h;have r1:cQ 1 _:=hr;refine⟨_,ai (bh (i:=2) KH.nd rfl (Or.inl rfl) cb)
  (ai (jo cO rfl (iV (by rfl) B.range (qU (cV gP aw (aL O r1 (by rfl) Y.m Y.F.kp Y.b .nil bC (bE (pv 0) (bE (pv 1) aj)))) aj)) (dO (i:=3) KH.nd rfl (Or.inl rfl)) (ay (bh (i:=2) KH.nd rfl (Or.inl rfl) (cV vY (pv 2) (bP FM cb (aL O r1 (by rfl) Y.m Y.F.kp Y.b .nil bC (bE (pv 0) (dB aw aj))) (fun _ _=>rfl))))))
  (ay (bN (pv 2)))),?_⟩
 have big:=dW;refine cg (cL (aY ?_));dsimp only;refine cg {_,rfl,_,rfl,p,n,rfl,pu,by omega,by omega,fun r G r0 J Z W=>{_,_,rfl,rfl,1+r,rfl,by omega,by omega,?_}};refine nI (n:=(1+r).toNat) (fun i σ G=>∃(w:Str) (u:Option V),σ=[some (.ref p),some (.int n),some (.str w),u]/\w.length=i/\dE G p/\But p H G) {_,_,rfl,rfl,Z,W} ?_ ?_
 ·rintro i σ G hi ⟨w,u,rfl,hw,Z,W⟩;refine cL {_,rfl,_,rfl,p,26,rfl,Z,by decide,by decide,fun x g z x1 U I=>?_};obtain⟨c,hc⟩:=Ou z x1;refine{abc,_,c,rfl,rfl,yA,hc,w,{#[c]},rfl,rfl,?_,?_}
  ·show w.length+1<=aB;omega
  ·exact{_,_,rfl,by rw[AS,hw];rfl,U,W.trans I}
 ·rintro σ G ⟨w,u,rfl,hw,Z,W⟩;dsimp only;exact eS {_,rfl,q w G (by omega) Z W}
abbrev nN:List Str:=["_law_purse_here","_law_many","_law_first"]
abbrev pN:List Str:=["_law_purse_here","_law_many","_law_first"]
theorem scN:bM nN pN (aM kj):={}
theorem ndN:((["_law_k"]:List Str)++nN).Nodup:=by decide +kernel
inductive AU(vs:List V)(H:Hp)(Q:VK)(_e:XK):Prop where
 |mk(p:aa)(n fs:Nat)(_:vs=[.ref p,.int n,.int fs])(_:dE H p)(_:n<=9)(_:fs+n<=26)(_:∀(l:aa) (ss:List Str) (H':Hp),H l=none->H' l=some (.lst (ss.map V.str))->ss.length=n->ss.Nodup->dE H' p->But p H H'->Q (.ref l) H'):AU vs H Q _e
def DH:Sp:=fun vs H Q Z=>AU vs H Q Z
theorem Ih(D:Df K mg "_law_names" kj pN f fd)(Y:Df K mg "_law_name" o9 pNm fNm fdNm)(g:Df K mg "_law_draw" dY pD fD fdD)(B:Bl mg):bA P w K mg base CX0 3 f fd pN DH:=by
 have M:bA P w K mg base CX0 2 fNm fdNm pNm spNm:=ok_nm Y g B;refine D.F.ok scN (fun vs H Q E h=>?_) (fun I A outer s H vs Q E hr h=>?_)
 ·obtain⟨p,n,fs,rfl,_⟩:=h;rfl
 obtain⟨p,n,fs,rfl,pu,n9,t,q⟩:=h;have r2:cQ 2 _:=hr;refine{_,ay (bN (mP ["_law_k"] (iI.open (NN:=nN) (N:=nN) (sc:=aM kj) rfl rfl (by decide +kernel) rfl (by decide +kernel) (by decide +kernel) rfl (by decide +kernel)) rfl (iV (by rfl) B.range (bE (pv 1) aj)) (fun _ _ _ _=>dO (i:=0) ndN rfl (Or.inl rfl)) (fun _ _ _ _=>jY) (fun _ _ _ _=>cV vY (bP FM cb (cV gP (pv 3) (pv 0)) (fun _ _=>rfl)) (aL M r2 (by rfl) Y.m Y.F.kp Y.b .nil bC (bE (pv 1) (dB aw aj)))))),?_};have big:=dW;refine eS ?_;refine uw (fun m G'=>m=n/\G'=H) (fun R z=>{_,rfl,z n H ⟨rfl,rfl⟩}) (fun m G' h=>by omega) (fun m G' i ys G=>∃W:List Str,ys=W.map V.str/\W.length=i/\GN fs W/\dE G p/\But p H G) ?_ ?_ ?_ ?_
 ·rintro m G' ⟨rfl,rfl⟩;exact{[],rfl,rfl,(fun i x e=>by cases e),pu,But.refl _ _}
 ·rintro m G' ⟨rfl,rfl⟩ i ys G hi ⟨W,rfl,hs,_⟩;rw[ao];omega
 ·rintro m G' ⟨rfl,rfl⟩ i ys G hi ⟨W,rfl,hs,gn,Z,U⟩;refine aY {rfl,?_};unfold xK;refine iH ?_;obtain⟨c,O,hc⟩:=KG (n:=fs+i) (by omega);refine{_,rfl,_,rfl,_,_,rfl,rfl,abc,_,c,rfl,rfl,yA,(by rw[show (fs:Int)+(0+(i:Int))=((fs+i:Nat):Int) by omega];exact hc),_,rfl,p,5,rfl,Z,by decide,by decide,fun s' G2 ls J b2=>{_,_,rfl,rfl,?_,?_}}
  ·show 1+s'.length<=aB;omega
  ·exact{W++[{#[c]}++s'],by rw[bT];rfl,by rw[aA,hs];rfl,gn.snoc (c:=c) (by rw[hs];exact O) (zB rfl),J,U.trans b2}
 ·rintro m G' ⟨rfl,rfl⟩ ys G ⟨W,rfl,hs,gn,Z,U⟩ l hl;have st:=aF hl (.lst (W.map V.str));exact q l W _ (U.dm Z l hl) ag hs gn.nodup (Z.same st) (U.same st)
end
theorem tH{H:Hp}{p lb:aa}{bs:List Str}(pu:dE H p)(hb:H lb=some (.lst (bs.map V.str))):lb≠p:=by
 obtain⟨x,y,e⟩:=pu;refine pG hb e fun z=>?_
 cases bs with
 |nil=>cases z
 |cons b r=>cases z
theorem kE{bs:List Str}{r:Int}(h0:0<=r)(h1:r<bs.length):∃x,atI (bs.map V.str) r=some (.str x)/\x∈bs:=by
 obtain⟨j,rfl⟩:∃j:Nat,r=(j:Int):={r.toNat,by omega};have lt:j<bs.length:=by omega
 exact{bs[j],ij (by rw[cC,aI lt];rfl),kH lt}
theorem jx.but{bs qs:List Str}{H H':Hp}{p:aa}{v:V}{f:Fm}(pu:dE H p)(b:But p H H')(h:jx bs qs H v f):jx bs qs H' v f:=h.mono fun t xs e=>dX.but pu b _ _ e (pC xs)
theorem uz{n:Int}(h:-1000000<=n/\n<=1000000):Wo n:=by
 have e:(10:Int)^15=1000000000000000:=by decide
 unfold Wo;omega
def zC:List Str:=["plus","less","times","part","rest","below","same","plus"]
theorem Ii{r:Int}(h0:0<=r)(h1:r<8):∃x,atI (zC.map V.str) r=some (.str x)/\x∈CJ:=by
 obtain⟨x,hx,m⟩:=kE (bs:=zC) h0 h1;refine{x,hx,?_};have:∀y∈zC,y∈CJ:=by decide +kernel
 exact this x m
theorem jU{H:Hp}{a:aa}(Z:H a=none)(o:HO):upd H a o a=some o:=ag
theorem rG{t u:TS}{D:m5}{σ:St}{H:Hp}(I:St->Hp->Prop)(hu:∀Z H',I Z H'->u D Z H')(h:∀N:St->Hp->Prop,(∀Z H',I Z H'->N Z H')->t {D with nx:=N} σ H):M0 t u D σ H:=h _ hu
theorem rj{xs:List V}(h:(!xs.isEmpty)=true):0<xs.length:=by
 cases xs with
 |nil=>cases h
 |cons y ys=>exact mE _
theorem zD{x y:V}{b:Bool}:atI [x,y] (if b=true then 1 else 0)=some (if b=true then y else x):=by
 cases b<;>rfl
section
variable{P:aN}{w:bL}{K:ae}{mg:Str->Option af}{base:cz}{f fD fW:aa}{fd fdD fdW:bR}{bs qs:List Str}
seal PS PSs PE PA PT PW PI PG PGs PC
abbrev nFo:List Str:=["_law_purse_here","_law_low","_law_boxes","_law_queues","_law_pick","_law_word","_law_one"]
abbrev pFo:List Str:=["_law_purse_here","_law_low","_law_boxes","_law_queues"]
theorem KI:bM nFo pFo (aM gS):={}
inductive L7(bs qs:List Str)(n:Nat)(vs:List V)(H:Hp)(Q:VK)(_e:XK):Prop where
 |mk(p lb lq:aa)(d:Nat)(_:vs=[.ref p,.int d,.ref lb,.ref lq])(_:d<n)(_:dE H p)(_:H lb=some (.lst (bs.map V.str)))(_:H lq=some (.lst (qs.map V.str)))(_:bs.length<=9)(_:qs.length<=9)(_:∀(v:V) (F:Fm) (H':Hp),jx bs qs H' v F->F.depth<=d+1->dE H' p->But p H H'->Q v H'):L7 bs qs n vs H Q _e
def Ij(bs qs:List Str)(n:Nat):Sp:=fun vs H Q Z=>L7 bs qs n vs H Q Z
theorem KJ{n:Nat}(D:Df K mg "_law_formula" gS pFo f fd)(W:Df K mg "_law_draw" dY pD fD fdD)(DW:Df K mg "_law_worth" fX pW fW fdW)(B:Bl mg)(GR:bA P w K mg base CX0 (n+2) f fd pFo (Ij bs qs n)):bA P w K mg base CX0 (n+3) f fd pFo (Ij bs qs (n+1)):=by
 have GD:bA P w K mg base CX0 1 fD fdD pD jt:=jm W;have GW:bA P w K mg base CX0 2 fW fdW pW vK:=xk DW W B;refine D.F.ok KI (fun vs H Q E h=>?_) (fun dV A outer s H vs Q E hr h=>?_)
 ·obtain⟨p,lb,lq,d,rfl,_⟩:=h;rfl
 obtain⟨p,lb,lq,d,rfl,dn,pu,hb,hq,ej,et,k⟩:=h;have ek:=EB hr;have r1:cQ 1 _:=hr.mono (by omega);have r2:cQ 2 _:=hr.mono (by omega);refine⟨_,ai (bh (i:=4) KI.nd rfl (Or.inl rfl) (aL GD r1 (by rfl) W.m W.F.kp W.b .nil bC (bE (pv 0) (l9 (bP cJ (eA (dB aw (dB aw aj))) (hJ qX (by rfl) B.int boot_int (au (mK vV (pv 1) aw (bX _)) aj)) (fun _ _=>rfl)) aj))))
  (ai (cK (bO rH (pv 4) aw (bX _)) (ay (bN (eD (dB cb (jc (aL GW r2 (by rfl) DW.m DW.F.kp DW.b .nil bC (bE (pv 0) aj)) aj))))) bS)
  (ai (cK ((oM (bO eN (pv 4) aw (bX _)) (mJ (bO (zh ek) (pv 2) (eA aj) (bX _)))).pt) (ay (bN (eD (dB cb (l9 (bP cJ (pv 2) (aL GD r1 (by rfl) W.m W.F.kp W.b .nil bC (bE (pv 0) (jc (cS (eX K (by rfl)) (by rfl) B.len cA (bE (pv 2) aj)) aj))) (fun _ _=>rfl)) aj))))) bS)
  (ai (cK ((oM (bO eN (pv 4) aw (bX _)) (mJ (bO (zh ek) (pv 3) (eA aj) (bX _)))).pt) (ay (bN (eD (dB cb (l9 (bP cJ (pv 3) (aL GD r1 (by rfl) W.m W.F.kp W.b .nil bC (bE (pv 0) (jc (cS (eX K (by rfl)) (by rfl) B.len cA (bE (pv 3) aj)) aj))) (fun _ _=>rfl)) aj))))) bS)
  (ai (cK (bO eN (pv 4) aw (bX _)) (ay (bN (eD (dB cb aj)))) bS)
  (ai (cK (bO rH (pv 4) aw (bX _)) (ay (bN (eD (dB cb (jc (aL GD r1 (by rfl) W.m W.F.kp W.b .nil bC (bE (pv 0) (dB aw aj))) aj))))) bS)
  (ai (bh (i:=5) KI.nd rfl (Or.inl rfl) (bP cJ (eA (dB cb (dB cb (dB cb (dB cb (dB cb (dB cb (dB cb (dB cb aj))))))))) (aL GD r1 (by rfl) W.m W.F.kp W.b .nil bC (bE (pv 0) (dB aw aj))) (fun _ _=>rfl)))
  (ai (bh (i:=6) KI.nd rfl (Or.inl rfl) (aL GR hr (by rfl) D.m D.F.kp D.b .nil bC (bE (pv 0) (qU (cV jS (pv 1) aw) (bE (pv 2) (bE (pv 3) aj))))))
  (ay (bN (eD (bE (pv 5) (bE (pv 6) (jc (aL GR hr (by rfl) D.m D.F.kp D.b .nil bC (bE (pv 0) (qU (cV jS (pv 1) aw) (bE (pv 2) (bE (pv 3) aj))))) aj))))))))))))),?_⟩
 have big:=dW;have nb:=tH pu hb;have nq:=tH pu hq;refine cg (cL {_,rfl,lt2,fun l0 el=>?_});have s0:=aF el (.lst [.int 6,.int 10]);refine{_,rfl,_,_,rfl,rfl,.inr {_,rfl,l0,_,_,_,rfl,rfl,SqL.of ag,zD,?_}};obtain⟨m,em,m6,md⟩:∃m:Int,(if decide ((d:Int)>0)=true then V.int 10 else V.int 6)=.int m/\(0<m/\m<100)/\(d=0->m=6):=by
  by_cases c:(d:Int)>0
  ·rw[decide_eq_true c];exact{10,rfl,by decide,fun z=>by omega}
  ·rw[decide_eq_false c];exact{6,rfl,by decide,fun _=>rfl}
 rw[em];refine{p,m,rfl,pu.same s0,m6.1,by omega,fun pk G dG eb Z J=>aY ?_};have J:=(But.same (But.refl p H) s0).trans J;clear s0 el;dsimp only;have g:∀{G:Hp},But p H G->G lb=some (.lst (bs.map V.str)):=fun b=>b _ _ hb nb;have eH:∀{G:Hp},But p H G->G lq=some (.lst (qs.map V.str)):=fun b=>b _ _ hq nq;refine cg (fZ {_,rfl,_,_,rfl,rfl,_,rfl,gi (fun _=>?_) (fun _=>?_)})
 ·refine eS {_,rfl,p,rfl,Z,fun r G2 r0 Y U b2=>{lt2,fun t ht=>?_}};have st:=aF ht (.tup [.str "number",.int r]);exact k _ (.num r) _ (.num ag ⟨r0,Y⟩) (by show 1<=d+1;omega) (U.same st) ((J.trans b2).same st)
 dsimp only[j6];refine rG (fun ez G=>ez=[some (.ref p),some (.int d),some (.ref lb),some (.ref lq),some (.int pk),none,none]/\dE G p/\But p H G) ?_ ?_
 rotate_left
 ·intro N hN;refine fZ {_,rfl,rfl,_,rfl,gi (fun _=>?_) (fun _=>gb (hN _ _ ⟨rfl,Z,J⟩))};refine{_,rfl,by show 0<=aB;omega,fun e0 eF=>?_};have O:=aF eF (.lst []);refine{lb,e0,_,rfl,rfl,O _ _ (g J),ag,_,rfl,gi (fun ne=>?_) (fun _=>hN _ _ {rfl,Z.same O,J.same O})};have l0:=rj ne;rw[ao]at l0;refine eS {_,rfl,_,rfl,_,rfl,lb,_,rfl,.inl (SqL.of (O _ _ (g J))),p,_,rfl,Z.same O,by rw[ao];omega,by rw[ao];omega,fun r G2 r0 Y U b2=>?_};rw[ao]at Y;obtain⟨x,hx,mx⟩:=kE r0 Y;have I:=(J.same O).trans b2;refine{lb,_,_,_,rfl,rfl,SqL.of (g I),hx,lt2,fun t ht=>?_};have st:=aF ht (.tup [.str "box",.str x]);exact k _ (.box x) _ (.box ag mx) (by show 1<=d+1;omega) (U.same st) (I.same st)
 rintro _ G1 ⟨rfl,M,b1⟩;refine rG (fun ez G=>ez=[some (.ref p),some (.int d),some (.ref lb),some (.ref lq),some (.int pk),none,none]/\dE G p/\But p H G) ?_ ?_
 rotate_left
 ·intro N hN;refine fZ {_,rfl,rfl,_,rfl,gi (fun _=>?_) (fun _=>gb (hN _ _ ⟨rfl,M,b1⟩))};refine{_,rfl,by show 0<=aB;omega,fun e0 eF=>?_};have O:=aF eF (.lst []);refine{lq,e0,_,rfl,rfl,O _ _ (eH b1),ag,_,rfl,gi (fun ne=>?_) (fun _=>hN _ _ {rfl,M.same O,b1.same O})};have l0:=rj ne;rw[ao]at l0;refine eS {_,rfl,_,rfl,_,rfl,lq,_,rfl,.inl (SqL.of (O _ _ (eH b1))),p,_,rfl,M.same O,by rw[ao];omega,by rw[ao];omega,fun r G2 r0 Y U b2=>?_};rw[ao]at Y;obtain⟨x,hx,mx⟩:=kE r0 Y;have I:=(b1.same O).trans b2;refine{lq,_,_,_,rfl,rfl,SqL.of (eH I),hx,lt2,fun t ht=>?_};have st:=aF ht (.tup [.str "long",.str x]);exact k _ (.long x) _ (.long ag mx) (by show 1<=d+1;omega) (U.same st) (I.same st)
 rintro _ G ⟨rfl,Z,J⟩;clear M b1;refine cg (fZ {_,rfl,rfl,_,rfl,gi (fun _=>?_) (fun _=>?_)})
 ·refine eS {BZ,fun t ht=>?_};have st:=aF ht (.tup [.str "now"]);exact k _ .now _ (.now ag) (by show 1<=d+1;omega) (Z.same st) (J.same st)
 dsimp only[j6];refine cg (fZ {_,rfl,_,_,rfl,rfl,_,rfl,gi (fun _=>?_) (fun c6=>?_)})
 ·refine eS {_,rfl,p,2,rfl,Z,by decide,by decide,fun a4 G4 a40 a41 ee b4=>{lt2,fun t4 ed=>?_}};have q4:=aF ed (.tup [.str "got",.int a4]);have er:a4=if (decide (a4=1))=true then 1 else 0:=by
   by_cases c:a4=1
   ·rw[decide_eq_true c,if_pos rfl];exact c
   ·rw[decide_eq_false c,if_neg (by decide)];omega
  exact k _ (.got (decide (a4=1))) _ (.got (by rw[ag,<- er])) (by show 1<=d+1;omega) (ee.same q4) ((J.trans b4).same q4)
 dsimp only[j6];have c6:¬pk<6:=fun z=>c6 (decide_eq_true z);obtain⟨e,rfl⟩:∃e,d=e+1:=⟨d-1,by
  by_cases z:d=0
  ·have:=md z;omega
  ·omega⟩
 have eo:((e+1:Nat):Int)-1=(e:Int):=by omega
 refine cg (cL {by show 8<=aB;omega,fun l hl=>?_});have ql:=aF hl (.lst (zC.map V.str));refine{_,rfl,p,8,rfl,Z.same ql,by decide,by decide,fun r G1 r0 Y M b1=>?_};have eh:l≠p:=ux Z hl;obtain⟨x,hx,mx⟩:=Ii r0 Y;refine{l,_,_,_,rfl,rfl,SqL.of (b1 _ _ ag eh),hx,aY ?_};dsimp only;have ew:But p H G1:=(J.same ql).trans b1;refine cg (cL {_,rfl,_,rfl,_,_,rfl,rfl,_,rfl,_,rfl,p,lb,lq,e,(by show [V.ref p,V.int (((e+1:Nat):Int)-1),V.ref lb,V.ref lq]=_;rw[eo]),by omega,M,g ew,eH ew,ej,et,fun v1 F1 G2 ef dL U b2=>aY ?_});dsimp only;have ey:=ew.trans b2;refine eS {_,rfl,_,rfl,_,rfl,_,rfl,_,_,rfl,rfl,_,rfl,_,rfl,p,lb,lq,e,(by show [V.ref p,V.int (((e+1:Nat):Int)-1),V.ref lb,V.ref lq]=_;rw[eo]),by omega,U,g ey,eH ey,ej,et,fun v2 F2 G3 ec ea ei b3=>{by show 3<=aB;omega,fun t ht=>?_}};have qt:=aF ht (.tup [.str x,v1,v2]);exact k _ (.two x F1 F2) _ (.two ag mx ((ef.but U b3).mono fun t xs e=>qt _ _ e) (ec.mono fun t xs e=>qt _ _ e)) (by show max F1.depth F2.depth+1<=e+1+1;omega) (ei.same qt) ((ey.trans b3).same qt)
theorem Ik(D:Df K mg "_law_formula" gS pFo f fd)(Y:Df K mg "_law_draw" dY pD fD fdD)(Z:Df K mg "_law_worth" fX pW fW fdW)(B:Bl mg):∀n:Nat,bA P w K mg base CX0 (n+2) f fd pFo (Ij bs qs n)
 |0=>⟨fun vs H Q E h=>by
   obtain⟨p,lb,lq,d,_,h,_⟩:=h;omega,fun A outer s H args us vs Q E _ _ _ _ h=>by
   obtain⟨p,lb,lq,d,_,h,_⟩:=h;omega⟩
 |n+1=>KJ D Y Z B (Ik D Y Z B n)
end
end My
namespace L2
open PySem PySem.Spec PyProof.Rows PySem.SeqAt
section
variable{X:Cx}
theorem Il(hu:X.A.units+50<eK):OpR X (cU .Eq) (fun x y H Q=>∃p q xs,x=.ref p/\y=.ref q/\H p=some (.lst xs)/\H q=some (.lst [])/\Q (.bl xs.isEmpty) H):=by
 intro pins s σ H x y v u Q I Z Y h;obtain⟨p,q,xs,rfl,rfl,h1,h2,k⟩:=h
 cases Z
 cases Y;obtain⟨us,r1,i1⟩:=iD I.hok h1;obtain⟨vs,r2,i2⟩:=iD I.hok h2
 cases r2;have hl:=r1.length
 cases xs with
 |nil=>
  cases r1;exact RcAt.lists (A:=X.A) (e:=fun _=>true) i1 i2 rfl (by omega) (fun j a b=>absurd a (gW _)) X.prog X.w _ _ {.bl true,H,I,rfl,k}
 |cons a xs=>
  exact RcAt.lists_lengths i1 i2 (by
   cases us with
   |nil=>cases hl
   |cons b us=>simp) (by omega) X.prog X.w _ _ {.bl false,H,I,rfl,k}
end
end L2
namespace My
open PySem L2
structure Th(H:Hp)(lt lb lq:aa)(bs qs:List Str):Prop where
 ht:H lt=some (.tup [.ref lb,.ref lq])
 hb:H lb=some (.lst (bs.map V.str))
 hq:H lq=some (.lst (qs.map V.str))
 lb:bs.length<=9
 lq:qs.length<=9
theorem Th.keepI{H H':Hp}{lt lb lq:aa}{bs qs:List Str}(k:dX H H')(h:Th H lt lb lq bs qs):Th H' lt lb lq bs qs:=
 {k _ _ h.ht (pC _),k _ _ h.hb (Dw _),k _ _ h.hq (Dw _),h.lb,h.lq}
theorem Im{r:Int}(h0:0<=r)(h1:r<3):∃x:Str,atI [V.str "go",.str "on",.str "stop"] r=some (.str x):=by
 obtain⟨x,hx,_⟩:=kE (bs:=["go","on","stop"]) h0 h1;exact⟨x,hx⟩
section
variable{P:aN}{w:bL}{K:ae}{mg:Str->Option af}{base:cz}{f fD fW fF fSe fS fE:aa}{fd fdD fdW fdF fdSe fdS fdE:bR}{bs qs:List Str}
seal PS PSs PE PA PT PW PI PG PGs PC
abbrev nSd:List Str:=["_law_purse_here","_law_there","_law_many","_law_boxes","_law_queues","_law_span","_law_to","_law_sign_here","_law_one"]
abbrev pSd:List Str:=["_law_purse_here","_law_there","_law_many"]
theorem AV:bM nSd pSd (aM lT):={}
inductive L8(bs qs:List Str)(vs:List V)(H:Hp)(Q:VK)(_e:XK):Prop where
 |mk(p lt lb lq:aa)(m:Int)(_:vs=[.ref p,.ref lt,.int m])(_:dE H p)(_:Th H lt lb lq bs qs)(_:0<m)(_:m<1000)(_:∀(v:V) (dd:Dd) (H':Hp),OwD bs qs H H' dd v->dd.toOk m->dd.deep=0->dd.size<=1->dE H' p->But p H H'->Q v H'):L8 bs qs vs H Q _e
def spSd(bs qs:List Str):Sp:=fun vs H Q Z=>L8 bs qs vs H Q Z
theorem ok_sd(D:Df K mg "_law_send" lT pSd f fd)(O:Df K mg "_law_formula" gS pFo fF fdF)(Z:Df K mg "_law_draw" dY pD fD fdD)(DW:Df K mg "_law_worth" fX pW fW fdW)(B:Bl mg):bA P w K mg base CX0 5 f fd pSd (spSd bs qs):=by
 have GD:bA P w K mg base CX0 1 fD fdD pD jt:=jm Z;have GF:bA P w K mg base CX0 4 fF fdF pFo (Ij bs qs 2):=Ik O Z DW B 2;refine D.F.ok AV (fun vs H Q E h=>?_) (fun ei A outer s H vs Q E hr h=>?_)
 ·obtain⟨p,lt,lb,lq,m,rfl,_⟩:=h;rfl
 obtain⟨p,lt,lb,lq,m,rfl,pu,T,m0,m1,k⟩:=h;have r1:cQ 1 _:=hr.mono (by decide);have r4:cQ 4 _:=hr;refine⟨_,ai (qc (pv 1) (vT rfl (jg (dO (i:=3) AV.nd rfl (Or.inl rfl)) (jg (dO (i:=4) AV.nd rfl (Or.inl rfl)) sI))))
  (ai (bh (i:=5) AV.nd rfl (Or.inl rfl) (eD (dB cb (qU (cV gP aw (aL GD r1 (by rfl) Z.m Z.F.kp Z.b .nil bC (bE (pv 0) (dB aw aj)))) aj))))
  (ai (cK (bO eN (aL GD r1 (by rfl) Z.m Z.F.kp Z.b .nil bC (bE (pv 0) (dB aw aj))) aw (bX _)) (ay (bh (i:=5) AV.nd rfl (Or.inl rfl) (aL GF r4 (by rfl) O.m O.F.kp O.b .nil bC (bE (pv 0) (dB aw (bE (pv 3) (bE (pv 4) aj))))))) bS)
  (ai (bh (i:=6) AV.nd rfl (Or.inl rfl) (aL GD r1 (by rfl) Z.m Z.F.kp Z.b .nil bC (bE (pv 0) (bE (pv 2) aj))))
  (ai (bh (i:=7) AV.nd rfl (Or.inl rfl) (bP cJ (eA (dB cb (dB cb (dB cb aj)))) (aL GD r1 (by rfl) Z.m Z.F.kp Z.b .nil bC (bE (pv 0) (dB aw aj))) (fun _ _=>rfl)))
  (ai (bh (i:=8) AV.nd rfl (Or.inl rfl) (aL GF r4 (by rfl) O.m O.F.kp O.b .nil bC (bE (pv 0) (dB aw (bE (pv 3) (bE (pv 4) aj))))))
  (ay (bN (eD (dB cb (bE (pv 6) (bE (pv 7) (bE (pv 5) (jc (aL GD r1 (by rfl) Z.m Z.F.kp Z.b .nil bC (bE (pv 0) (dB aw aj))) (bE (pv 8) (jc (aL GF r4 (by rfl) O.m O.F.kp O.b .nil bC (bE (pv 0) (dB aw (bE (pv 3) (bE (pv 4) aj))))) aj))))))))))))))),?_⟩
 have big:=dW;refine cg (cL {_,rfl,lt,_,rfl,SqT.of T.ht,rfl,_,_,rfl,aY {_,_,rfl,aY {rfl,?_}}});dsimp only;refine cg (cL {_,rfl,p,7,rfl,pu,by decide,by decide,fun a G a0 a1 er bG=>{_,_,rfl,rfl,lt2,fun t1 ey=>aY ?_}});dsimp only;have s1:=aF ey (.tup [.str "number",.int (1+a)]);have J:=(dX.but pu bG).trans (dX.same s1);have Y:=er.same s1;have b1:=bG.same s1;have f1:FmI bs qs (upd G t1 (.tup [.str "number",.int (1+a)])) (.ref t1) (.num (1+a)):={.num ag (uz (by omega)),by show 1<=15;decide};revert J Y b1 f1;clear s1 ey;generalize upd G t1 (.tup [.str "number",.int (1+a)])=G1;intro J Y b1 f1
 -- the span
 refine rG (fun ew G=>∃(v5:V) (F:Fm),ew=[some (.ref p),some (.ref lt),some (.int m),some (.ref lb),some (.ref lq),some v5,none,none,none]/\FmI bs qs G v5 F/\dE G p/\But p H G/\dX H G) ?_ ?_
 rotate_left
 ·intro N hN;refine fZ {_,rfl,p,8,rfl,Y,by decide,by decide,fun r G2 r0 r8 W z=>{rfl,_,rfl,gi (fun _=>?_) (fun _=>hN _ _ {_,_,rfl,f1.keepI (dX.but Y z),W,b1.trans z,J.trans (dX.but Y z)})}};have M:=J.trans (dX.but Y z);have T2:=T.keepI M;refine cL {_,rfl,_,rfl,_,rfl,p,lb,lq,1,rfl,by decide,W,T2.hb,T2.hq,T.lb,T.lq,fun v F G3 hF dF U b3=>aY (hN _ _ {v,F,rfl,{hF,by omega},U,(b1.trans z).trans b3,M.trans (dX.but W b3)})}
 rintro _ G2 ⟨v5,F5,rfl,f5,W,z,M⟩;refine cg (cL {_,rfl,_,rfl,p,m,rfl,W,by omega,by omega,fun to G3 to0 to1 U b3=>aY ?_});dsimp only;refine cg (cL {by show 3<=aB;omega,fun l3 g=>?_});have s3:=aF g (.lst [.str "go",.str "on",.str "stop"]);refine{_,rfl,p,3,rfl,U.same s3,by decide,by decide,fun r G4 r0 r3 eL b4=>?_};obtain⟨sg,et⟩:=Im r0 r3;refine{l3,_,_,_,rfl,rfl,SqL.of (b4 _ _ ag (ux U g)),et,aY ?_};dsimp only;have ez:=((dX.but W b3).trans (dX.same s3)).trans (dX.but (U.same s3) b4);have T4:=T.keepI (M.trans ez);refine cg (cL {_,rfl,_,rfl,_,rfl,p,lb,lq,1,rfl,by decide,eL,T4.hb,T4.hq,T.lb,T.lq,fun v6 F6 G5 em ek eF b5=>aY ?_});dsimp only;refine eS {_,rfl,_,rfl,_,rfl,_,rfl,p,10,rfl,eF,by decide,by decide,fun rk G6 ej ef eH b6=>{_,rfl,_,rfl,_,rfl,_,rfl,?_}};have fa:=dX.but eL b5;have I:=dX.but eF b6;have T6:=T4.keepI (fa.trans I);refine{p,lb,lq,0,rfl,by decide,eH,T6.hb,T6.hq,T.lb,T.lq,fun v7 F7 G7 eo eh el b7=>{by show 7<=aB;omega,fun t ht=>?_}};have st:=aF ht (.tup [.str "send",.int to,.str sg,v5,.int rk,v6,v7]);have f6:FmI bs qs G5 v6 F6:={em,by omega};have f7:FmI bs qs G7 v7 F7:={eo,by omega};have fe:=(dX.but eH b7).trans (dX.same st);exact k _ (.send to sg F5 rk F6 F7) _ (Kz ag (f5.keepI (((ez.trans fa).trans I).trans fe)) (f6.keepI (I.trans fe)) (f7.keepI (dX.same st))) ⟨to0,to1⟩ rfl (aD _) (el.same st) ((((((z.trans b3).same s3).trans b4).trans b5).trans b6).trans b7 |>.same st)
end
structure Gro(bs qs:List Str)(m:Int)(dp S:Nat)(B G:Hp)(l0:aa)(i:Nat):Prop where
 ex:∃(xs:List V) (ds:Ds),G l0=some (.lst xs)/\xs.length<=i/\OwS bs qs B G ds xs/\ds.toOk m/\ds.deep<=dp/\ds.size<=i*S
theorem Gro.up{bs qs:List Str}{m:Int}{dp S:Nat}{B G:Hp}{Z:aa}{i:Nat}(h:Gro bs qs m dp S B G Z i):Gro bs qs m dp S B G Z (i+1):=by
 obtain⟨xs,ds,h1,h2,U,Y,V,W⟩:=h.ex;exact{xs,ds,h1,by omega,U,Y,V,dA W (lr _ (gp _))}
theorem Gro.keepI{bs qs:List Str}{m:Int}{dp S:Nat}{B G G':Hp}{Z:aa}{i:Nat}(h:Gro bs qs m dp S B G Z i)(k:dX G G'):Gro bs qs m dp S B G' Z i:=by
 obtain⟨xs,ds,h1,h2,Y,W,U,V⟩:=h.ex;exact{xs,ds,k _ _ h1 Y.now.ni,h2,Y.keepI k,W,U,V}
theorem Gro.step{bs qs:List Str}{m:Int}{dp S:Nat}{B G W:Hp}{p U Z:aa}{i:Nat}{xs:List V}{ds:Ds}{v:V}{dd:Dd}(I:Z∉[p,U])(L:Lf G p U)(k:Kp [p,U] G W)(H:B Z≠none)(dm:Dm B G)(hx:G Z=some (.lst xs))(D:xs.length<=i)(O:OwS bs qs B G ds xs)(to:ds.toOk m)(d1:ds.deep<=dp)(sz:ds.size<=i*S)
  (J:OwD bs qs G W dd v) (t:dd.toOk m) (d2:dd.deep<=dp) (s2:dd.size<=S):Gro bs qs m dp S B (upd W Z (.lst (xs++[v]))) Z (i+1):=by
 have M:=k _ _ hx I;have ol:G Z≠none:=by
  rw[hx];intro z
  cases z
 have Y:∀ys,W Z≠some (.tup ys):=fun ys z=>by
  rw[M]at z
  cases z
 refine{xs++[v],qV ds dd,ag,by rw[aA];show xs.length+1<=i+1;omega,Ig ((O.keepI (k.keepI L.int)).old H Y) ((J.old ol Y).base dm),Dz t ds to,by rw[yB];omega,?_};rw[yC,B7];omega
theorem Lf.put{G:Hp}{p Z Y:aa}{o:HO}(L:Lf G p Z)(W:Y∉[p,Z]):Lf (upd G Y o) p Z:=by
 obtain⟨x,y,e⟩:=L.pu;obtain⟨z,V⟩:=L.hl;exact{{x,y,aS e (fun q=>W (by rw[<- q];exact aC))},z,aS V (fun q=>W (by rw[<- q];exact ah _ aC))}
theorem Lf.kp'{H G:Hp}{p Z:aa}(Y:Lf G p Z)(b:But p H G):Kp [p,Z] H G:=Kp.but b aC
structure Dr(H G:Hp)(p lf lt lb lq:aa)(bs qs:List Str):Prop where
 L:Lf G p lf
 T:Th G lt lb lq bs qs
 k:Kp [p,lf] H G
theorem Dr.but{H G G':Hp}{p Z lt lb lq:aa}{bs qs:List Str}(d:Dr H G p Z lt lb lq bs qs)(b:But p G G')(pu:dE G' p):Dr H G' p Z lt lb lq bs qs:={d.L.but b pu,d.T.keepI (dX.but d.L.pu b),d.k.trans (Kp.but b aC)}
theorem Dr.same{H G G':Hp}{p Z lt lb lq:aa}{bs qs:List Str}(d:Dr H G p Z lt lb lq bs qs)(s:aV G G'):Dr H G' p Z lt lb lq bs qs:={d.L.same s,d.T.keepI (dX.same s),d.k.trans (Kp.same s)}
theorem Dr.kp{H G G':Hp}{p Z lt lb lq:aa}{bs qs:List Str}(d:Dr H G p Z lt lb lq bs qs)(k:Kp [p,Z] G G')(L:Lf G' p Z):Dr H G' p Z lt lb lq bs qs:={L,d.T.keepI (k.keepI d.L.int),d.k.trans k}
theorem Dr.dm{H G:Hp}{p Z lt lb lq:aa}{bs qs:List Str}(d:Dr H G p Z lt lb lq bs qs):Dm H G:=d.k.dm d.L.there
section
variable{P:aN}{w:bL}{K:ae}{mg:Str->Option af}{base:cz}{f fD fW fF fSe fS fE:aa}{fd fdD fdW fdF fdSe fdS fdE:bR}{bs qs:List Str}
seal PS PSs PE PA PT PW PI PG PGs PC
abbrev nLd:List Str:=["_law_purse_here","_law_low","_law_left","_law_there","_law_many","_law_boxes","_law_queues","_law_pick","_law_queue","_law_formula_here","_law_ones"]
abbrev pLd:List Str:=["_law_purse_here","_law_low","_law_left","_law_there","_law_many"]
theorem B8:bM nLd pLd (aM lU):={}
abbrev nLs:List Str:=["_law_purse_here","_law_low","_law_left","_law_there","_law_many","_law_found","_law_k"]
abbrev pLs:List Str:=["_law_purse_here","_law_low","_law_left","_law_there","_law_many"]
theorem Ow:bM nLs pLs (aM jv):={}
inductive L9(bs qs:List Str)(n:Nat)(vs:List V)(H:Hp)(Q:VK)(_e:XK):Prop where
 |mk(p lt lb lq lf:aa)(m:Int)(d:Nat)(_:vs=[.ref p,.int d,.ref lf,.ref lt,.int m])(_:d<n)(_:Lf H p lf)(_:Th H lt lb lq bs qs)(_:0<m)(_:m<1000)(_:∀(v:V) (dd:Dd) (H':Hp),OwD bs qs H H' dd v->dd.toOk m->dd.deep<=d->dd.size<=ddz d->Lf H' p lf->Kp [p,lf] H H'->Q v H'):L9 bs qs n vs H Q _e
def spLd(bs qs:List Str)(n:Nat):Sp:=fun vs H Q Z=>L9 bs qs n vs H Q Z
inductive Ma(bs qs:List Str)(n:Nat)(vs:List V)(H:Hp)(Q:VK)(_e:XK):Prop where
 |mk(p lt lb lq lf:aa)(m:Int)(d:Nat)(_:vs=[.ref p,.int d,.ref lf,.ref lt,.int m])(_:d<n)(_:Lf H p lf)(_:Th H lt lb lq bs qs)(_:0<m)(_:m<1000)(_:∀(l:aa) (xs:List V) (ds:Ds) (H':Hp),H l=none->H' l=some (.lst xs)->xs.length<1000->OwS bs qs H H' ds xs->ds.toOk m->ds.deep<=d->ds.size<=3*ddz d->Lf H' p lf->Kp [p,lf] H H'->Q (.ref l) H'):Ma bs qs n vs H Q _e
def Io(bs qs:List Str)(n:Nat):Sp:=fun vs H Q Z=>Ma bs qs n vs H Q Z
theorem KL{n kk:Nat}(hk:5<=kk)(D:Df K mg "_law_deed" lU pLd f fd)(DS:Df K mg "_law_deeds" jv pLs fS fdS)(GS:bA P w K mg base CX0 kk fS fdS pLs (Io bs qs n))(g:Df K mg "_law_send" lT pSd fSe fdSe)(DF:Df K mg "_law_formula" gS pFo fF fdF)(Z:Df K mg "_law_draw" dY pD fD fdD)(DW:Df K mg "_law_worth" fX pW fW fdW)(B:Bl mg) :
  bA P w K mg base CX0 (kk+1) f fd pLd (spLd bs qs (n+1)):=by
 have GD:bA P w K mg base CX0 1 fD fdD pD jt:=jm Z;have GF:bA P w K mg base CX0 5 fF fdF pFo (Ij bs qs 3):=Ik DF Z DW B 3;have he:bA P w K mg base CX0 5 fSe fdSe pSd (spSd bs qs):=ok_sd g DF Z DW B;refine D.F.ok B8 (fun vs H Q E h=>?_) (fun fy A outer s H vs Q E hr h=>?_)
 ·obtain⟨p,lt,lb,lq,W,m,d,rfl,_⟩:=h;rfl
 obtain⟨p,lt,lb,lq,W,m,d,rfl,dn,L,T,m0,m1,k⟩:=h;have hD:=EB hr;have r1:cQ 1 _:=hr.mono (by omega);have r5:cQ 5 _:=hr.mono hk;refine⟨_,ai (qc (pv 3) (vT rfl (jg (dO (i:=5) B8.nd rfl (Or.inl rfl)) (jg (dO (i:=6) B8.nd rfl (Or.inl rfl)) sI))))
  (ai (bh (i:=7) B8.nd rfl (Or.inl rfl) (aL GD r1 (by rfl) Z.m Z.F.kp Z.b .nil bC (bE (pv 0) (dB aw aj))))
  (ai (cK ((Le (bO rH (pv 7) aw (bX _)) (Fq ((oM (bO rH (pv 7) aw (bX _)) (mJ (bO (Il hD) (pv 5) (eA aj) (bX _)))).pt))).pt) (ay (bN (aL he r5 (by rfl) g.m g.F.kp g.b .nil bC (bE (pv 0) (bE (pv 3) (bE (pv 4) aj)))))) bS)
  (ai (cK (bO rH (pv 7) aw (bX _)) (ay (bN (eD (dB cb (l9 (bP cJ (pv 5) (aL GD r1 (by rfl) Z.m Z.F.kp Z.b .nil bC (bE (pv 0) (jc (cS (eX K (by rfl)) (by rfl) B.len cA (bE (pv 5) aj)) aj))) (fun _ _=>rfl)) (jc (aL GF r5 (by rfl) DF.m DF.F.kp DF.b .nil bC (bE (pv 0) (dB aw (bE (pv 5) (bE (pv 6) aj))))) aj)))))) bS)
  (ai (cK (bO eN (pv 7) aw (bX _)) (ay (bN (eD (dB cb (l9 (bP cJ (pv 5) (aL GD r1 (by rfl) Z.m Z.F.kp Z.b .nil bC (bE (pv 0) (jc (cS (eX K (by rfl)) (by rfl) B.len cA (bE (pv 5) aj)) aj))) (fun _ _=>rfl)) (zA (eD (dB cb (qU (cV gP aw (aL GD r1 (by rfl) Z.m Z.F.kp Z.b .nil bC (bE (pv 0) (dB aw aj)))) aj))) aj)))))) bS)
  (ai (cK ((oM (bO eN (pv 7) aw (bX _)) (oM (bO (zh hD) (pv 6) (eA aj) (bX _)) (mJ (bO vV (pv 1) aw (bX _))))).pt) (ai (bh (i:=8) B8.nd rfl (Or.inl rfl) (bP cJ (pv 6) (aL GD r1 (by rfl) Z.m Z.F.kp Z.b .nil bC (bE (pv 0) (jc (cS (eX K (by rfl)) (by rfl) B.len cA (bE (pv 6) aj)) aj))) (fun _ _=>rfl)))
  (ay (bN (eD (dB cb (bE (pv 8) (l9 (bP cJ (pv 5) (aL GD r1 (by rfl) Z.m Z.F.kp Z.b .nil bC (bE (pv 0) (jc (cS (eX K (by rfl)) (by rfl) B.len cA (bE (pv 5) aj)) aj))) (fun _ _=>rfl)) (jc (aL GS hr (by rfl) DS.m DS.F.kp DS.b .nil bC (bE (pv 0) (qU (cV jS (pv 1) aw) (bE (pv 2) (bE (pv 3) (bE (pv 4) aj)))))) aj)))))))) bS)
  (ai (cK ((oM (bO eN (pv 7) aw (bX _)) (mJ (bO (zh hD) (pv 6) (eA aj) (bX _)))).pt) (ay (bN (eD (dB cb (l9 (bP cJ (pv 6) (aL GD r1 (by rfl) Z.m Z.F.kp Z.b .nil bC (bE (pv 0) (jc (cS (eX K (by rfl)) (by rfl) B.len cA (bE (pv 6) aj)) aj))) (fun _ _=>rfl)) (jc (aL GF r5 (by rfl) DF.m DF.F.kp DF.b .nil bC (bE (pv 0) (dB aw (bE (pv 5) (bE (pv 6) aj))))) aj)))))) bS)
  (ai (cK ((oM (bO rH (pv 7) aw (bX _)) (mJ (bO vV (pv 1) aw (bX _)))).pt) (ai (bh (i:=9) B8.nd rfl (Or.inl rfl) (aL GF r5 (by rfl) DF.m DF.F.kp DF.b .nil bC (bE (pv 0) (dB aw (bE (pv 5) (bE (pv 6) aj))))))
  (ai (bh (i:=10) B8.nd rfl (Or.inl rfl) (aL GS hr (by rfl) DS.m DS.F.kp DS.b .nil bC (bE (pv 0) (qU (cV jS (pv 1) aw) (bE (pv 2) (bE (pv 3) (bE (pv 4) aj)))))))
  (ay (bN (eD (dB cb (bE (pv 9) (bE (pv 10) (jc (aL GS hr (by rfl) DS.m DS.F.kp DS.b .nil bC (bE (pv 0) (qU (cV jS (pv 1) aw) (bE (pv 2) (bE (pv 3) (bE (pv 4) aj)))))) aj))))))))) bS)
  (ai (cK ((oM (bO eN (pv 7) aw (bX _)) (mJ (bO eN (aL GD r1 (by rfl) Z.m Z.F.kp Z.b .nil bC (bE (pv 0) (dB aw aj))) aw (bX _)))).pt) (ay (bN (eD (dB cb aj)))) bS)
  (ay (bN (aL he r5 (by rfl) g.m g.F.kp g.b .nil bC (bE (pv 0) (bE (pv 3) (bE (pv 4) aj)))))))))))))),?_⟩
 have big:=dW;have dz:=KC d;have hC:=T.lb;have hj:=T.lq;refine cg (cL {_,rfl,lt,_,rfl,SqT.of T.ht,rfl,_,_,rfl,aY {_,_,rfl,aY {rfl,?_}}});dsimp only;refine cg (cL {_,rfl,p,12,rfl,L.pu,by decide,by decide,fun pk G fx fz hz bG=>aY ?_});dsimp only;have d0:Dr H H p W lt lb lq bs qs:={L,T,Kp.refl _ _};have dG:=d0.but bG hz
 -- a send
 have hB:∀{G:Hp},Dr H G p W lt lb lq bs qs->∀(v:V) (dd:Dd) (H':Hp),OwD bs qs G H' dd v->dd.toOk m->dd.deep=0->dd.size<=1->dE H' p->But p G H'->Q v H':=fun d1 v dd H' hO t e1 e2 gt b'=>k v dd H' (hO.base d1.dm) t (by omega) (by omega) (d1.L.but b' gt) (d1.k.trans (Kp.but b' aC));refine rG (fun U G=>U=[some (.ref p),some (.int d),some (.ref W),some (.ref lt),some (.int m),some (.ref lb),some (.ref lq),some (.int pk),none,none,none]/\(pk<8->0<bs.length)/\Dr H G p W lt lb lq bs qs) ?_ ?_
 rotate_left
 ·intro N I;refine fZ {_,rfl,_,_,rfl,rfl,_,rfl,gi (fun _=>?_) (fun c4=>?_)}
  ·exact iH (eS {_,rfl,_,rfl,_,rfl,p,lt,lb,lq,m,rfl,hz,dG.T,m0,m1,hB dG})
  refine{_,rfl,_,_,rfl,rfl,_,rfl,gi (fun _=>?_) (fun c8=>gb (I _ _ {rfl,fun z=>absurd (decide_eq_true z) c8,dG}))};refine{_,rfl,by show 0<=aB;omega,fun e0 hI=>?_};have u0:=aF hI (.lst []);have d1:=dG.same u0;refine{lb,e0,_,rfl,rfl,d1.T.hb,ag,_,rfl,gi (fun _=>?_) (fun ne=>I _ _ {rfl,fun _=>?_,d1})}
  ·exact eS {_,rfl,_,rfl,_,rfl,p,lt,lb,lq,m,rfl,d1.L.pu,d1.T,m0,m1,hB d1}
  ·cases bs with
   |nil=>exact absurd rfl ne
   |cons y ys=>exact mE _
 rintro _ G1 ⟨rfl,c8,d1⟩;clear dG hz bG
 -- a box, drawn
 have bx:∀{G:Hp} {R:VK},pk<8->Dr H G p W lt lb lq bs qs->(∀(x:Str) (G':Hp),x∈bs->dE G' p->But p G G'->Dr H G' p W lt lb lq bs qs->R (.str x) G')->jt [V.ref p,V.int ((bs.map V.str).length:Int)] G (fun y H2=>Ng K (.ref lb) y H2 R) E0:=fun c d2 q=>by
  have l0:=c8 c;refine{p,_,rfl,d2.L.pu,by rw[ao];omega,by rw[ao];omega,fun r G2 r0 M J b2=>?_};rw[ao]at M;obtain⟨x,hx,mx⟩:=kE r0 M;have d3:=d2.but b2 J;exact{lb,_,_,_,rfl,rfl,SqL.of d3.T.hb,hx,q x G2 mx J b2 d3}
 refine cg (fZ {_,rfl,_,_,rfl,rfl,_,rfl,gi (fun c6=>?_) (fun _=>?_)})
 ·have c6:pk<6:=of_decide_eq_true c6;refine eS {_,rfl,_,rfl,_,rfl,lb,_,rfl,.inl (SqL.of d1.T.hb),bx (by omega) d1 fun x G2 mx J b2 d2=>?_};refine{_,rfl,_,rfl,_,rfl,p,lb,lq,2,rfl,by decide,J,d2.T.hb,d2.T.hq,hC,hj,fun v F G3 hF dF hG b3=>{by show 3<=aB;omega,fun t ht=>?_}};have st:=aF ht (.tup [.str "put",.str x,v]);have d3:=(d2.but b3 hG).same st;have fI:FmI bs qs G3 v F:={hF,by omega};exact k _ (.put x F) _ (Oq ag mx (fI.keepI (dX.same st))) trivial (bU _) dz d3.L d3.k
 dsimp only[j6];refine cg (fZ {_,rfl,rfl,_,rfl,gi (fun c6=>?_) (fun _=>?_)})
 ·have c6:pk=6:=V.int.inj (of_decide_eq_true c6);refine eS {_,rfl,_,rfl,_,rfl,lb,_,rfl,.inl (SqL.of d1.T.hb),bx (by omega) d1 fun x G2 mx J b2 d2=>?_};refine{_,rfl,p,20,rfl,J,by decide,by decide,fun a G3 a0 a1 hG b3=>{_,_,rfl,rfl,lt2,fun t1 ge=>{by show 3<=aB;omega,fun t ht=>?_}}};have s1:=aF ge (.tup [.str "number",.int (1+a)]);have st:=aF ht (.tup [.str "draw",.str x,.ref t1]);have d3:=((d2.but b3 hG).same s1).same st;exact k _ (.draw x (.num (1+a))) _ (Ky ag mx {.num (st _ _ ag) (uz (by omega)),by show 1<=15;decide}) trivial (bU _) dz d3.L d3.k
 dsimp only[j6]
 -- pull
 refine rG (fun U G=>U=[some (.ref p),some (.int d),some (.ref W),some (.ref lt),some (.int m),some (.ref lb),some (.ref lq),some (.int pk),none,none,none]/\Dr H G p W lt lb lq bs qs) ?_ ?_
 rotate_left
 ·intro N I;refine fZ {_,rfl,rfl,_,rfl,gi (fun c7=>?_) (fun _=>gb (I _ _ ⟨rfl,d1⟩))};have c7:pk=7:=V.int.inj (of_decide_eq_true c7);refine{_,rfl,by show 0<=aB;omega,fun e0 hI=>?_};have u0:=aF hI (.lst []);have d2:=d1.same u0;refine{lq,e0,_,rfl,rfl,d2.T.hq,ag,_,rfl,gi (fun ne=>?_) (fun _=>gb (I _ _ ⟨rfl,d2⟩))};refine{_,rfl,_,_,rfl,rfl,_,rfl,gi (fun cd=>?_) (fun _=>I _ _ ⟨rfl,d2⟩)};have cd:(d:Int)>0:=of_decide_eq_true cd;obtain⟨e,rfl⟩:∃e,d=e+1:={d-1,by omega};have hg:((e+1:Nat):Int)-1=(e:Int):=by omega
  have l0:=rj ne;rw[ao]at l0;refine cg (cL {_,rfl,_,rfl,_,rfl,lq,_,rfl,.inl (SqL.of d2.T.hq),p,_,rfl,d2.L.pu,by rw[ao];omega,by rw[ao];omega,fun r G2 r0 M J b2=>?_});rw[ao]at M;obtain⟨y,hy,my⟩:=kE r0 M;have d3:=d2.but b2 J;refine{lq,_,_,_,rfl,rfl,SqL.of d3.T.hq,hy,aY ?_};dsimp only;refine eS {_,rfl,_,rfl,_,rfl,_,rfl,lb,_,rfl,.inl (SqL.of d3.T.hb),bx (by omega) d3 fun x G3 mx hG b3 Y=>?_};refine{_,rfl,_,rfl,_,_,rfl,rfl,_,rfl,_,rfl,_,rfl,p,lt,lb,lq,W,m,e,(by show [V.ref p,V.int (((e+1:Nat):Int)-1),V.ref W,V.ref lt,V.int m]=_;rw[hg]),by omega,Y.L,Y.T,m0,m1,fun l1 gr hL G4 hA h1 hK O1 t1 gw gq L4 k4=>{by show 4<=aB;omega,fun t ht=>?_}};have st:=aF ht (.tup [.str "pull",.str y,.str x,.ref l1]);have O:=(Y.kp k4 L4).same st;refine k _ (.pull y x hL) _ (KA ag my mx (Y.dm l1 hA) (st _ _ h1) hK ((O1.base Y.dm).keepI (dX.same st))) t1 ?_ ?_ O.L O.k
  ·show hL.deep+1<=e+1;omega
  ·show hL.size+1<=1+6*ddz e;omega
 rintro _ G2 ⟨rfl,d2⟩;clear d1
 -- push
 refine rG (fun U G=>U=[some (.ref p),some (.int d),some (.ref W),some (.ref lt),some (.int m),some (.ref lb),some (.ref lq),some (.int pk),none,none,none]/\Dr H G p W lt lb lq bs qs) ?_ ?_
 rotate_left
 ·intro N I;refine fZ {_,rfl,rfl,_,rfl,gi (fun c7=>?_) (fun _=>gb (I _ _ ⟨rfl,d2⟩))};refine{_,rfl,by show 0<=aB;omega,fun e0 hI=>?_};have u0:=aF hI (.lst []);have d3:=d2.same u0;refine{lq,e0,_,rfl,rfl,d3.T.hq,ag,_,rfl,gi (fun ne=>?_) (fun _=>I _ _ ⟨rfl,d3⟩)};have l0:=rj ne;rw[ao]at l0;refine eS {_,rfl,_,rfl,_,rfl,lq,_,rfl,.inl (SqL.of d3.T.hq),p,_,rfl,d3.L.pu,by rw[ao];omega,by rw[ao];omega,fun r G4 r0 M hH b4=>?_};rw[ao]at M;obtain⟨y,hy,my⟩:=kE r0 M;have Y:=d3.but b4 hH;refine{lq,_,_,_,rfl,rfl,SqL.of Y.T.hq,hy,?_};refine{_,rfl,_,rfl,_,rfl,p,lb,lq,1,rfl,by decide,hH,Y.T.hb,Y.T.hq,hC,hj,fun v F G5 hF dF hE b5=>{by show 3<=aB;omega,fun t ht=>?_}};have st:=aF ht (.tup [.str "push",.str y,v]);have O:=(Y.but b5 hE).same st;have fI:FmI bs qs G5 v F:={hF,by omega};exact k _ (.push y F) _ (Kx ag my (fI.keepI (dX.same st))) trivial (bU _) dz O.L O.k
 rintro _ G3 ⟨rfl,d3⟩;clear d2
 -- if
 refine rG (fun U G=>U=[some (.ref p),some (.int d),some (.ref W),some (.ref lt),some (.int m),some (.ref lb),some (.ref lq),some (.int pk),none,none,none]/\Dr H G p W lt lb lq bs qs) ?_ ?_
 rotate_left
 ·intro N I;refine fZ {_,rfl,_,_,rfl,rfl,_,rfl,gi (fun c7=>?_) (fun _=>gb (I _ _ ⟨rfl,d3⟩))};refine{_,rfl,_,_,rfl,rfl,_,rfl,gi (fun cd=>?_) (fun _=>I _ _ ⟨rfl,d3⟩)};have cd:(d:Int)>0:=of_decide_eq_true cd;obtain⟨e,rfl⟩:∃e,d=e+1:={d-1,by omega};have hg:((e+1:Nat):Int)-1=(e:Int):=by omega
  have ev:[V.ref p,V.int (((e+1:Nat):Int)-1),V.ref W,V.ref lt,V.int m]=[V.ref p,.int e,.ref W,.ref lt,.int m]:=by rw[hg]
  refine cg (cL {_,rfl,_,rfl,_,rfl,p,lb,lq,2,rfl,by decide,d3.L.pu,d3.T.hb,d3.T.hq,hC,hj,fun vf F G4 hF dF hH b4=>aY ?_});dsimp only;have Y:=d3.but b4 hH;have fI:FmI bs qs G4 vf F:={hF,by omega};refine cg (cL {_,rfl,_,rfl,_,_,rfl,rfl,_,rfl,_,rfl,_,rfl,p,lt,lb,lq,W,m,e,ev,by omega,Y.L,Y.T,m0,m1,fun l1 gr hL G5 hA h1 hK O1 t1 gw gq L5 k5=>aY ?_});dsimp only;have O:=Y.kp k5 L5;refine eS {_,rfl,_,rfl,_,rfl,_,rfl,_,_,rfl,rfl,_,rfl,_,rfl,_,rfl,p,lt,lb,lq,W,m,e,ev,by omega,O.L,O.T,m0,m1,fun l2 ft hf G6 gM h2 ha O2 t2 gd fo L6 k6=>{by show 4<=aB;omega,fun t ht=>?_}};have st:=aF ht (.tup [.str "if",vf,.ref l1,.ref l2]);have gl:=k5.keepI Y.L.int;have hn:=k6.keepI O.L.int;have d6:=(O.kp k6 L6).same st;refine k _ (.ife F hL hf) _ (Ot ag (fI.keepI ((gl.trans hn).trans (dX.same st))) (Y.dm l1 hA) (st _ _ (hn _ _ h1 O1.now.ni)) hK ((O1.base Y.dm).keepI (hn.trans (dX.same st))) (O.dm l2 gM) (st _ _ h2) ha ((O2.base O.dm).keepI (dX.same st))) ⟨t1,t2⟩ ?_ ?_ d6.L d6.k
  ·show max hL.deep hf.deep+1<=e+1;omega
  ·show hL.size+hf.size+1<=1+6*ddz e;omega
 rintro _ G4 ⟨rfl,Y⟩;clear d3
 -- end
 refine rG (fun U G=>U=[some (.ref p),some (.int d),some (.ref W),some (.ref lt),some (.int m),some (.ref lb),some (.ref lq),some (.int pk),none,none,none]/\Dr H G p W lt lb lq bs qs) ?_ ?_
 rotate_left
 ·intro N I;refine fZ {_,rfl,rfl,_,rfl,gi (fun c7=>?_) (fun _=>gb (I _ _ ⟨rfl,Y⟩))};refine{_,rfl,p,4,rfl,Y.L.pu,by decide,by decide,fun r G5 r0 r4 hE b5=>{rfl,_,rfl,gi (fun _=>?_) (fun _=>I _ _ {rfl,Y.but b5 hE})}};refine eS {BZ,fun t ht=>?_};have st:=aF ht (.tup [.str "end"]);have O:=(Y.but b5 hE).same st;exact k _ .fin _ (Os ag) trivial (bU _) dz O.L O.k
 rintro _ G5 ⟨rfl,O⟩;exact eS {_,rfl,_,rfl,_,rfl,p,lt,lb,lq,m,rfl,O.L.pu,O.T,m0,m1,hB O}
theorem KM{n kk:Nat}(hk:1<=kk)(D:Df K mg "_law_deeds" jv pLs f fd)(DE:Df K mg "_law_deed" lU pLd fE fdE)(GE:bA P w K mg base CX0 kk fE fdE pLd (spLd bs qs n))(DD:Df K mg "_law_draw" dY pD fD fdD)(B:Bl mg) :
  bA P w K mg base CX0 (kk+1) f fd pLs (Io bs qs n):=by
 have GD:bA P w K mg base CX0 1 fD fdD pD jt:=jm DD;refine D.F.ok Ow (fun vs H Q E h=>?_) (fun dL A outer s H vs Q E hr h=>?_)
 ·obtain⟨p,lt,lb,lq,Z,m,d,rfl,_⟩:=h;rfl
 obtain⟨p,lt,lb,lq,Z,m,d,rfl,dn,L,T,m0,m1,k⟩:=h;have r1:cQ 1 _:=hr.mono hk;refine⟨_,ai (bh (i:=5) Ow.nd rfl (Or.inl rfl) (eA aj))
  (ai (jo cO rfl (iV (by rfl) B.range (jc (aL GD r1 (by rfl) DD.m DD.F.kp DD.b .nil bC (bE (pv 0) (dB aw aj))) aj)) (dO (i:=6) Ow.nd rfl (Or.inl rfl)) (ay (cK (bO vV (bP cJ (pv 2) aw (fun _ _=>rfl)) aw (bX _)) (ai (qc (cV jS (bP cJ (pv 2) aw (fun _ _=>rfl)) aw) (tR (pv 2) aw nV))
  (ay (d9 (nX bV cY cZ iC (pv 5) (jc (aL GE hr (by rfl) DE.m DE.F.kp DE.b .nil bC (bE (pv 0) (bE (pv 1) (bE (pv 2) (bE (pv 3) (bE (pv 4) aj)))))) aj))))) bS)))
  (ay (bN (pv 5)))),?_⟩
 have big:=dW;have mf:Z∈[p,Z]:=ah _ aC;refine cg (cL {bU _,fun Y O=>aY ?_});have s0:=aF O (.lst []);dsimp only;have n0:Y∉[p,Z]:=fun z=>by
  obtain⟨i,r,e⟩:=L.int Y z;rw[O]at e
  cases e
 have hB:upd H Y (.lst []) Y≠none:=by
  rw[ag];intro z
  cases z
 refine cg {_,rfl,p,4,rfl,L.pu.same s0,by decide,by decide,fun r G r0 dG ea bG=>{r,rfl,by omega,by omega,?_}};have LG:=(L.same s0).but bG ea;have kG:Kp [p,Z] H G:=(Kp.same s0).trans (LG.kp' bG);have kB:Kp [p,Z] (upd H Y (.lst [])) G:=LG.kp' bG;have ed:G Y=some (.lst []):=bG _ _ ag (fun z=>n0 (by rw[z];exact aC));refine nI (n:=r.toNat) (fun i σ G'=>∃(v6:Option V),σ=[some (.ref p),some (.int d),some (.ref Z),some (.ref lt),some (.int m),some (.ref Y),v6]/\i<=3/\Gro bs qs m d (ddz d) (upd H Y (.lst [])) G' Y i/\Lf G' p Z/\Kp [p,Z] H G'/\Dm (upd H Y (.lst [])) G')
  {_,rfl,by decide,{[],.nil,ed,aD _,KB,trivial,bU _,bU _},LG,kG,kB.dm LG.there} ?_ ?_
 ·rintro i σ G1 hi ⟨v6,rfl,i2,gr,I,k1,J⟩;obtain⟨c0,hc⟩:=I.hl;refine fZ ?_;refine{_,rfl,Z,_,_,_,rfl,rfl,SqL.of hc,rfl,_,_,rfl,rfl,_,rfl,?_};refine gi (fun _=>?_) (fun _=>?_)
  ·refine cg (cL {_,rfl,Z,_,_,_,rfl,rfl,SqL.of hc,rfl,_,_,rfl,rfl,_,rfl,Z,_,_,0,rfl,rfl,hc,rfl,?_});dsimp only;have W:Lf (upd G1 Z (.lst ([V.int c0].set 0 (.int (c0-1))))) p Z:={uy I.pu I.ne,c0-1,ag};have k2:Kp [p,Z] G1 (upd G1 Z (.lst ([V.int c0].set 0 (.int (c0-1))))):=Kp.upd mf;have g:=gr.keepI (k2.keepI I.int);have M:=J.trans (k2.dm W.there);have k2:=k1.trans k2;revert M g k2 W;generalize upd G1 Z (.lst ([V.int c0].set 0 (.int (c0-1))))=G2;intro W g M k2;obtain⟨xs,ds,h1,h2,h3,h4,h5,h6⟩:=g.ex;have T2:=T.keepI (k2.keepI L.int);refine{_,rfl,.inl {rfl,_,SqL.of h1},_,rfl,_,rfl,_,rfl,_,rfl,_,rfl,p,lt,lb,lq,Z,m,d,rfl,dn,W,T2,m0,m1,fun v dd G3 hO t dV ec L3 U=>?_};refine{Y,xs,v,rfl,rfl,U _ _ h1 n0,by omega,?_};refine{_,rfl,by omega,Gro.step n0 W U hB M h1 h2 h3 h4 h5 h6 hO t dV ec,L3.put n0,fun b o eb nb=>aS ((k2.trans U) b o eb nb) (av eb O),fun a na=>?_}
   by_cases ca:a=Y
   ·rw[ca,ag]at na
    cases na
   ·rw[aO ca]at na;exact M a (U.dm L3.there a na)
  ·exact{_,rfl,by omega,gr.up,I,k1,J}
 ·rintro σ G1 ⟨v6,rfl,i2,gr,I,k1,J⟩;obtain⟨xs,ds,h1,h2,h3,h4,h5,h6⟩:=gr.ex;dsimp only;refine eS {_,rfl,k Y xs ds G1 O h1 (by omega) (h3.base (Dm.same s0)) h4 h5 ?_ I k1};have:r.toNat*ddz d<=3*ddz d:=lr _ i2;omega
theorem Mb(D:Df K mg "_law_deeds" jv pLs f fd)(Y:Df K mg "_law_deed" lU pLd fE fdE)(Z:Df K mg "_law_send" lT pSd fSe fdSe)(V:Df K mg "_law_formula" gS pFo fF fdF)(W:Df K mg "_law_draw" dY pD fD fdD)(U:Df K mg "_law_worth" fX pW fW fdW)(B:Bl mg):∀n:Nat,bA P w K mg base CX0 (5+2*n) f fd pLs (Io bs qs n)
 |0=>⟨fun vs H Q E h=>by
   obtain⟨p,lt,lb,lq,O,m,d,_,h,_⟩:=h;omega,fun A outer s H args us vs Q E _ _ _ _ h=>by
   obtain⟨p,lt,lb,lq,O,m,d,_,h,_⟩:=h;omega⟩
 |n+1=>KM (kk:=5+2*n+1) (by omega) D Y (KL (by omega) Y D (Mb D Y Z V W U B n) Z V W U B) W B
end
theorem MIn.but{m:Int}{H H' H1:Hp}{p:aa}{v:V}{M:MD}(Z:dE H p)(pu:dE H' p)(b:But p H' H1)(h:MIn m H H' v M):MIn m H H1 v M:=by
 obtain⟨t,e,h⟩:=h;exact{t,e,h.but Z pu b}
theorem MIn.old{m:Int}{B G:Hp}{a:aa}{o:HO}{v:V}{M:MD}(ol:B a≠none)(nt:∀xs,G a≠some (.tup xs))(h:MIn m B G v M):MIn m B (upd G a o) v M:=by
 obtain⟨t,e,⟨bl,ql,dl,hl,U,hv,h1,h2,I,Y,J,O,W,n1,n2,n3,Z⟩,kb,nb,nq,lb,lq,ld,lh,wb,hk⟩:=h;have ne:∀{b:aa},B b=none->b≠a:=fun n z=>ol (z ▸ n);have tk:∀(b:aa) (xs:List V),G b=some (.tup xs)->upd G a o b=some (.tup xs):=fun b xs e=>aS e fun z=>nt xs (z ▸ e);exact{t,e,{bl,ql,dl,hl,U,hv,tk _ _ h1,aS h2 (ne n1),gO.tups tk I,aS Y (ne n2),aS J (ne n3),aS O (ne Z),Paired.mono (fun _ _ z=>z.old ol nt) W,n1,n2,n3,Z},kb,nb,nq,lb,lq,ld,lh,wb,hk}
theorem zE{bs:List Str}{i:Nat}{x:V}(hi:(bs.map V.str)[i]?=some x):∃o,bs[i]?=some o/\x=.str o:=by
 rw[cC]at hi;obtain⟨o,ho,rfl⟩:=iq.mp hi;exact⟨o,ho,rfl⟩
section
variable{P:aN}{w:bL}{K:ae}{mg:Str->Option af}{base:cz}{f fD fW fN fS:aa}{fd fdD fdW fdN fdS:bR}
seal PS PSs PE PA PT PW PI PG PGs PC
abbrev nMs:List Str:=["_law_purse_here","_law_many","_law_found","_law_name_here","_law_boxes","_law_queues","_law_draws","_law_hears","_law_sign_here"]
abbrev pMs:List Str:=["_law_purse_here"]
theorem zF:bM nMs pMs (aM hW):={}
theorem ndMs:((["_law_k"]:List Str)++nMs).Nodup:=by decide +kernel
theorem ndMs2:((["_law_box"]:List Str)++nMs).Nodup:=by decide +kernel
inductive Mc(vs:List V)(H:Hp)(Q:VK)(_e:XK):Prop where
 |mk(p:aa)(_:vs=[.ref p])(_:dE H p)(_:∀(ml:aa) (xs:List V) (Ms:List MD) (H':Hp),H' ml=some (.lst xs)->aP (MIn Ms.length H H') xs Ms->0<Ms.length->Ms.length<=6->ml≠p->dE H' p->But p H H'->Q (.ref ml) H'):Mc vs H Q _e
def spMs:Sp:=fun vs H Q Z=>Mc vs H Q Z
theorem ok_ms(D:Df K mg "_law_machines" hW pMs f fd)(DN:Df K mg "_law_names" kj pN fN fdN)(no:bA P w K mg base CX0 3 fN fdN pN DH)(DS:Df K mg "_law_deeds" jv pLs fS fdS)(kz:∀bs qs,bA P w K mg base CX0 13 fS fdS pLs (Io bs qs 4))(Y:Df K mg "_law_draw" dY pD fD fdD)(DW:Df K mg "_law_worth" fX pW fW fdW)(B:Bl mg):bA P w K mg base CX0 14 f fd pMs spMs:=by
 have GD:bA P w K mg base CX0 1 fD fdD pD jt:=jm Y;have GW:bA P w K mg base CX0 2 fW fdW pW vK:=xk DW Y B;have GS:=bA.some (ι:=List Str×List Str) (sp:=fun q=>Io q.1 q.2 4) (F:=fun q=>kz q.1 q.2);refine D.F.ok zF (fun vs H Q E h=>?_) (fun hP A outer s H vs Q E hr h=>?_)
 ·obtain⟨p,rfl,_⟩:=h;rfl
 obtain⟨p,rfl,pu,k⟩:=h;have r1:cQ 1 _:=hr.mono (by decide);have r2:cQ 2 _:=hr.mono (by decide);have r3:cQ 3 _:=hr.mono (by decide);have ky:cQ 13 _:=hr;refine⟨_,ai (bh (i:=1) zF.nd rfl (Or.inl rfl) (cV gP aw (aL GD r1 (by rfl) Y.m Y.F.kp Y.b .nil bC (bE (pv 0) (l9 (bP cJ (eA (dB aw (dB aw aj))) (hJ qX (by rfl) B.int boot_int (au (mK eN (aL GD r1 (by rfl) Y.m Y.F.kp Y.b .nil bC (bE (pv 0) (dB aw aj))) aw (bX _)) aj)) (fun _ _=>rfl)) aj)))))
  (ai (bh (i:=2) zF.nd rfl (Or.inl rfl) (eA aj))
  (ai (jo cO rfl (iU (aL no r3 (by rfl) DN.m DN.F.kp DN.b .nil bC (bE (pv 0) (bE (pv 1) (dB aw aj))))) (dO (i:=3) zF.nd rfl (Or.inl rfl)) (ai (bh (i:=4) zF.nd rfl (Or.inl rfl) (aL no r3 (by rfl) DN.m DN.F.kp DN.b .nil bC (bE (pv 0) (jc (aL GD r1 (by rfl) Y.m Y.F.kp Y.b .nil bC (bE (pv 0) (dB aw aj))) (dB aw aj)))))
  (ai (bh (i:=5) zF.nd rfl (Or.inl rfl) (aL no r3 (by rfl) DN.m DN.F.kp DN.b .nil bC (bE (pv 0) (jc (aL GD r1 (by rfl) Y.m Y.F.kp Y.b .nil bC (bE (pv 0) (dB aw aj))) (dB aw aj)))))
  (ai (zd (i:=6) ["_law_k"] (iI.open (NN:=nMs) (N:=nMs) (sc:=aM hW) rfl rfl (by decide +kernel) rfl (by decide +kernel) (by decide +kernel) rfl (by decide +kernel)) rfl zF.nd rfl (Or.inl rfl) (iV (by rfl) B.range (jc (aL GD r1 (by rfl) Y.m Y.F.kp Y.b .nil bC (bE (pv 0) (dB aw aj))) aj)) (fun _ _ _ _=>dO (i:=0) ndMs rfl (Or.inl rfl)) (fun _ _ _ _=>jY) (fun _ _ _ _=>aL GD r1 (by rfl) Y.m Y.F.kp Y.b .nil bC (bE (pv 1) (dB aw aj))))
  (ai (bh (i:=7) zF.nd rfl (Or.inl rfl) (eA aj))
  (ai (jo cO rfl (iU (sN vt (eA (dB cb (dB cb (dB cb aj)))) vn (vp (cV gP aw (aL GD r1 (by rfl) Y.m Y.F.kp Y.b .nil bC (bE (pv 0) (dB aw aj))))))) (dO (i:=8) zF.nd rfl (Or.inl rfl)) (ay (d9 (nX bV cY cZ iC (pv 7) (zA (eD (bE (pv 8) (jc (aL GS ky (by rfl) DS.m DS.F.kp DS.b .nil bC (bE (pv 0) (dB aw (xi (eA (dB aw aj)) (zA (eD (bE (pv 4) (bE (pv 5) aj))) (bE (pv 1) aj)))))) aj))) aj) (hs:=AQ)))))
  (ay (d9 (nX bV cY cZ iC (pv 2) (zA (eD (bE (pv 3) (au (mP ["_law_box"] (iI.open (NN:=nMs) (N:=nMs) (sc:=aM hW) rfl rfl (by decide +kernel) rfl (by decide +kernel) (by decide +kernel) rfl (by decide +kernel)) rfl (iU (pv 4)) (fun _ _ _ _=>dO (i:=0) ndMs2 rfl (Or.inl rfl)) (fun _ _ _ _=>jY) (fun _ _ _ _=>eD (bE (pv 0) (jc (aL GW r2 (by rfl) DW.m DW.F.kp DW.b .nil bC (bE (pv 1) aj)) aj)))) (bE (pv 5) (bE (pv 6) (bE (pv 7) aj)))))) aj) (hs:=AQ))))))))))
  (ay (bN (pv 2))))),?_⟩
 have big:=dW;refine cg (cL {_,rfl,lt2,fun l0 oc=>?_});have s0:=aF oc (.lst [.int 4,.int 6]);refine{_,rfl,p,8,rfl,pu.same s0,by decide,by decide,fun r G r0 r8 I bG=>{rfl,.inr {_,rfl,l0,_,_,_,rfl,rfl,SqL.of (bG _ _ ag (ux pu oc)),zD,?_}}};obtain⟨mm,em,ix⟩:∃m:Int,(if decide (V.int r=V.int 7)=true then V.int 6 else V.int 4)=.int m/\(0<m/\m<=6):=by
  by_cases c:V.int r=V.int 7
  ·rw[decide_eq_true c];exact{6,rfl,by decide}
  ·rw[decide_eq_false c];exact{4,rfl,by decide}
 rw[em];refine{p,mm,rfl,I,ix.1,by omega,fun x G1 x0 x1 ov b1=>{_,_,rfl,rfl,aY ?_}};obtain⟨m,hm,m0,m6⟩:∃m:Nat,1+x=(m:Int)/\0<m/\m<=6:={(1+x).toNat,by omega,by omega,by omega};dsimp only;rw[hm];have b1:But p H G1:=((But.same (But.refl p H) s0).trans bG).trans b1;clear bG I s0 oc;refine cg (cL {bU _,fun fl nc=>aY ?_});have sf:=aF nc (.lst []);dsimp only;have py:=ov.same sf;have b2:=b1.same sf;have pp:upd G1 fl (.lst []) fl=some (.lst []):=ag;have ri:fl≠p:=ux ov nc;have ka:H fl=none:=b1.dm ov fl nc;revert py b2 pp;generalize upd G1 fl (.lst [])=G2;intro py b2 pp;have nl:G2 fl≠none:=fun z=>by
  rw[pp]at z
  cases z
 refine cg {_,rfl,_,rfl,p,m,0,rfl,py,by omega,by omega,fun ln ss G3 kn pw mv nd mn b3=>{ln,rfl,{_,SqL.of pw},?_}};have js:ln≠p:=tH mn pw;have lc:ln≠fl:=fun z=>nl (z ▸ kn);refine j7 (K:=K) (a:=ln) (xs:=ss.map V.str) (fun i σ G=>∃(u3 u4 u5 u6 u7 u8:Option V) (xs:List V) (Ms:List MD),σ=[some (.ref p),some (.int m),some (.ref fl),u3,u4,u5,u6,u7,u8]/\G ln=some (.lst (ss.map V.str))/\G fl=some (.lst xs)/\aP (MIn m G2 G) xs Ms/\Ms.length=i/\dE G p/\Kp [p,fl] G2 G)
  {_,_,_,_,_,_,[],[],rfl,pw,b3 _ _ pp ri,.nil,rfl,mn,Kp.but b3 aC} ?_ ?_ ?_
 ·rintro i σ G _ ⟨_,_,_,_,_,_,_,_,rfl,h,_⟩;exact SqL.of h
 ·rintro i v σ G hi ⟨u3,u4,u5,u6,u7,u8,xs,Ms,rfl,hG,ra,pM,lM,I,kG⟩;obtain⟨nm,ii,rfl⟩:=zE hi;have il:=(aG.mp ii).1;refine aY ?_;dsimp only
  -- the boxes' names, the queues
  refine cg (cL {_,rfl,_,rfl,p,4,rfl,I,by decide,by decide,fun r Ga r0 r4 pr ba=>?_});obtain⟨r,rfl⟩:∃n:Nat,r=(n:Int):={r.toNat,by omega};refine{p,r,0,rfl,pr,by omega,by omega,fun lb bs Gb hS oT hQ ly oe bb=>aY ?_};dsimp only;have ih:But p G Gb:=ba.trans bb;have g:lb≠p:=tH oe oT;refine cg (cL {_,rfl,_,rfl,p,3,rfl,oe,by decide,by decide,fun r' Gc hK hN nf bc=>?_});obtain⟨r',rfl⟩:∃n:Nat,r'=(n:Int):={r'.toNat,by omega};refine{p,r',8,rfl,nf,by omega,by omega,fun lq qs Gd jp rv hO hY pR bd=>aY ?_};dsimp only;have mc:But p G Gc:=ih.trans bc;have pq:But p G Gd:=mc.trans bd;have rf:lq≠p:=tH pR rv;have lx:G lq=none:=mc.dm nf lq jp;have rc:=bd _ _ (bc _ _ oT g) g;clear ba bb bc bd pr oe nf
  -- the draws
  refine cg (cL ?_);refine uw (fun n G'=>n<4/\dE G' p/\But p Gd G') (fun R hR=>⟨_,rfl,p,4,rfl,pR,by decide,by decide,fun x G' x0 x1 pu b=>by
    obtain⟨n,rfl⟩:∃n:Nat,x=(n:Int):={x.toNat,by omega};exact hR n G' {by omega,pu,b}⟩) (fun n G' h=>by have:=h.1;omega) (fun n _ i ys G'=>∃ds:List Int,ys=ds.map V.int/\ds.length=i/\dE G' p/\But p Gd G') (fun n G' h=>{[],rfl,rfl,h.2.1,h.2.2}) ?_ ?_ ?_
  ·rintro n G0 h i ys G' hi ⟨ds,rfl,h1,_⟩;rw[ao];have:=h.1;omega
  ·rintro n G0 h i ys G' hi ⟨ds,rfl,h1,pu,b⟩;refine{rfl,?_};unfold xK;refine iH ?_;refine{_,rfl,p,100,rfl,pu,by decide,by decide,fun x Ga x0 x1 pr ba=>?_};exact{ds++[x],by rw[bT];rfl,by rw[aA,h1];rfl,pr,b.trans ba}
  rintro n G0 hn ys Ge ⟨ds,rfl,hI,rp,be⟩ dl hdl;have ld:ds.length<=100:=by have:=hn.1;omega
  have rm:=aF hdl (.lst (ds.map V.int));refine aY ?_;dsimp only;have io:G dl=none:=pq.dm pR dl (be.dm rp dl hdl);have mt:dl≠p:=ux rp hdl
  -- what it hears
  refine cg (cL {bU _,fun hl J=>aY ?_});have nz:=aF J (.lst []);have sD:=rm.trans nz;dsimp only;have mb:G hl=none:=pq.dm pR hl (be.dm rp hl (none_of rm J));have qp:=rp.same sD;have bF:But p G (upd (upd Ge dl (.lst (ds.map V.int))) hl (.lst [])):=(pq.trans be).same sD;have rz:=sD _ _ (be _ _ rc g);have ry:=sD _ _ (be _ _ rv rf);have px:=nz _ _ (jU hdl (.lst (ds.map V.int)));have U:=jU J (.lst []);have qb:hl≠p:=ux (rp.same rm) J;have nh:lb≠hl/\lq≠hl/\dl≠hl:={av (rm _ _ (be _ _ rc g)) J,av (rm _ _ (be _ _ rv rf)) J,av (jU hdl _) J};revert qp bF rz ry px U;clear sD nz rm hdl J be rp rc rv pq pR hn;generalize upd (upd Ge dl (.lst (ds.map V.int))) hl (.lst [])=GF;intro qp bF rz ry px U;have mz:GF hl≠none:=fun z=>by
   rw[U]at z
   cases z
  -- its signs
  refine cg {by show 3<=aB;omega,fun l3 oq=>?_};have s3:=aF oq (.lst [.str "go",.str "on",.str "stop"]);refine{_,rfl,p,3,rfl,qp.same s3,by decide,by decide,fun r Gg r0 r3 ow bg=>{_,_,rfl,rfl,_,rfl,l3,_,rfl,SqL.of (bg _ _ ag (ux qp oq)),fun sl rb=>?_}};obtain⟨zs,lz,eq⟩:∃zs:List Str,zs.length<=3/\rD [V.str "go",.str "on",.str "stop"] none (some (1+r))=zs.map V.str:=by
   have cs:r=0\/r=1\/r=2:=by omega
   rcases cs with rfl|rfl|rfl
   ·exact{["go"],by decide,rfl}
   ·exact{["go","on"],by decide,rfl}
   ·exact{["go","on","stop"],by decide,rfl}
  rw[eq];have pk:=aF rb (.lst (zs.map V.str));have ph:=((But.refl p GF).same s3).trans bg;have lp:sl≠p:=ux ow rb;have iv:sl≠hl:=(av (ph _ _ U qb) rb).symm;have nT:=ow.same pk;have kI:Kp [p,hl] GF (upd Gg sl (.lst (zs.map V.str))):=(Kp.but (ph) aC).trans (Kp.same pk);have qm:=pk _ _ (ph _ _ U qb);have rx:=jU rb (.lst (zs.map V.str));revert nT kI qm rx;clear pk rb eq ph bg ow s3 oq;generalize upd Gg sl (.lst (zs.map V.str))=GI;intro nT kI qm rx;have ro:∀{a:aa},a≠p->a≠hl->a∉[p,hl]:=fun n1 n2 z=>by
   simp only[ar,aK,or_false]at z;exact z.elim n1 n2
  have kt:∀{G':Hp},dE G' p->(∃o,G' hl=some o)->∀a∈[p,hl],∃o,G' a=some o:=fun pu h a z=>by
   simp only[ar,aK,or_false]at z
   rcases z with rfl|rfl
   ·obtain⟨x,y,e⟩:=pu;exact{_,e}
   ·exact h
  refine{sl,rfl,{_,SqL.of rx},?_};refine j7 (K:=K) (a:=sl) (xs:=zs.map V.str) (fun j σ G'=>∃(u8:Option V) (hv:List V) (hs:List (Str×Ds)),σ=[some (.ref p),some (.int m),some (.ref fl),some (.str nm),some (.ref lb),some (.ref lq),some (.ref dl),some (.ref hl),u8]/\G' sl=some (.lst (zs.map V.str))/\G' hl=some (.lst hv)/\aP (HsO bs qs GF G') hv hs/\hs.length=j/\(∀q∈hs,q.2.toOk m/\q.2.deep<=4/\q.2.size<=3*ddz 4)/\dE G' p/\Kp [p,hl] GF G')
   {_,[],[],rfl,rx,qm,.nil,rfl,(fun q hq=>by cases hq),nT,kI} ?_ ?_ ?_
  ·rintro j σ G' _ ⟨_,_,_,rfl,h,_⟩;exact SqL.of h
  ·rintro j v σ G' hj ⟨u8,hv,hs,rfl,pc,O,pi,oD,oi,Z,W⟩;obtain⟨sg,kh,rfl⟩:=zE hj;have jl:=(aG.mp kh).1;have hL:=aZ pi;have pa:Dm GF G':=W.dm (kt Z {_,O});refine aY ?_;dsimp only;refine{_,rfl,.inl {rfl,_,SqL.of O},_,rfl,_,rfl,BZ,fun lf my=>{_,rfl,_,rfl,lt2,fun lt im=>{_,rfl,?_}}};have lj:=aF my (.lst [.int 12]);have ml:=aF im (.tup [.ref lb,.ref lq]);have s2:=lj.trans ml;have L:Lf (upd (upd G' lf (.lst [.int 12])) lt (.tup [.ref lb,.ref lq])) p lf:={Z.same s2,12,ml _ _ ag};have T:Th (upd (upd G' lf (.lst [.int 12])) lt (.tup [.ref lb,.ref lq])) lt lb lq bs qs:={ag,s2 _ _ (W _ _ rz (ro g nh.1)),s2 _ _ (W _ _ ry (ro rf nh.2.1)),by omega,by omega};refine{(bs,qs),p,lt,lb,lq,lf,m,3,rfl,by decide,L,T,by omega,by omega,fun l ys dd Gk la h1 hX O1 t1 lK kw Lk kk=>{lt2,fun t ht=>?_}};have st:=aF ht (.tup [.str sg,.ref l])
   -- all but the purse stays
   have kp:Kp [p] G' Gk:=fun b o e nb=>kk _ _ (s2 _ _ e) fun z=>by
    simp only[ar,aK,or_false]at z
    rcases z with z|z
    ·exact nb (by simp[z])
    ·rw[z,my]at e
     cases e
   have ki:dX G' Gk:=kp.keepI fun a ha=>by
    obtain⟨x,y,e⟩:=Z;rw[aE.mp ha];exact{x,_,e}
   have mr:=kp _ _ O (by simpa using qb);have oL:=st _ _ mr;refine{hl,hv,.ref t,rfl,rfl,oL,by omega,?_};have mq:∀ys,upd Gk t (.tup [.str sg,.ref l]) hl≠some (.tup ys):=fun ys z=>by
    rw[oL]at z
    cases z
   have rr:Dm G' (upd (upd G' lf (.lst [.int 12])) lt (.tup [.ref lb,.ref lq])):=Dm.same s2;have new:HsO bs qs GF (upd Gk t (.tup [.str sg,.ref l])) (.ref t) (sg,dd):={t,l,ys,rfl,ag,pa l (rr l la),st _ _ h1,by omega,(O1.base (pa.trans rr)).keepI (dX.same st)};refine{_,hv++[.ref t],hs++[(sg,dd)],rfl,aS (st _ _ (kp _ _ pc (by simpa using lp))) iv,ag,?_,by rw[aA,oD];rfl,fun q hq=>?_,uy (Lk.pu.same st) qb,fun b o' e nb=>?_}
   ·exact eP (Paired.mono (fun v q z=>(z.keepI (ki.trans (dX.same st))).old mz mq) pi) (new.old mz mq)
   ·rcases bY.mp hq with z|z
    ·exact oi q z
    ·rw[aE.mp z];exact{t1,dA lK (by decide),dA kw (by decide)}
   ·have kc:b≠hl:=fun z=>nb (by simp[z]);rw[aO kc];exact st _ _ (kp _ _ (W _ _ e nb) fun z=>nb (by simp only[aE]at z;simp[z]))
  ·rintro σ G' ⟨u8,hv,hs,rfl,pc,O,pi,oD,oi,Z,W⟩;dsimp only;rw[ao]at oD;have na:But p G G':=fun b o e nb=>W _ _ (bF _ _ e nb) (ro nb (av e mb));have mx:=na _ _ ra ri;have qt:=W _ _ rz (ro g nh.1);have hT:=aZ pM;rw[mv]at il;refine{_,rfl,.inl {rfl,_,SqL.of mx},_,rfl,?_};refine xj (K:=K) (a:=lb) (xs:=bs.map V.str) (fun R h=>{_,rfl,h}) (SqL.of qt) (fun j ys Gx=>∃ps:List (Str×Int),gO Gx ps ys/\ps.map (·.1)=bs.take j/\(∀q∈ps,Wo q.2)/\dE Gx p/\But p G' Gx) {[],.nil,rfl,(fun q hq=>by cases hq),Z,But.refl _ _} ?_ ?_ ?_
   ·rintro j ys Gx hj ⟨ps,h5,h6,h7,h8,h9⟩;have l5:=h5.length;have l6:=congrArg jy h6;rw[ao,c9]at l6;exact{SqL.of (h9 _ _ qt g),by omega}
   ·rintro j v ys Gx hj ⟨ps,h5,h6,h7,h8,h9⟩;obtain⟨o,ho,rfl⟩:=zE hj;refine{rfl,?_};unfold xK;refine iH ?_;refine{_,rfl,_,rfl,p,rfl,h8,fun x Gy x0 x1 lk mf=>{lt2,fun t ht=>?_}};have st:=aF ht (.tup [.str o,.int x]);refine{ps++[(o,x)],?_,?_,fun q hq=>?_,lk.same st,(h9.trans mf).same st}
    ·unfold gO;rw[bT];exact eP (gO.tups (fun t xs e=>st _ _ (dX.but h8 mf _ _ e (pC xs))) h5) ⟨t,rfl,ag⟩
    ·rw[bT,h6,eR,ho];rfl
    ·rcases bY.mp hq with z|z
     ·exact h7 q z
     ·rw[aE.mp z];exact⟨x0,x1⟩
   rintro vb Gx ⟨ps,kv,kb,wb,mu,bx⟩ bl mW;rw[ao,dZ]at kb;have kB:=aF mW (.lst vb);refine{_,rfl,_,rfl,_,rfl,by show 5<=aB;omega,fun t ht=>?_};have st:=aF ht (.tup [.str nm,.ref bl,.ref lq,.ref dl,.ref hl]);have sZ:=kB.trans st;have bz:=bx.same sZ;have pe:=na.trans bz;have ls:=(dX.but Z bx).trans (dX.same sZ);have lR:G bl=none:=na.dm Z bl (bx.dm mu bl mW);have lw:Dm G GF:=bF.dm qp;have iF:Mch m G (upd (upd Gx bl (.lst vb)) t (.tup [.str nm,.ref bl,.ref lq,.ref dl,.ref hl])) t nm bs qs ds hs ps:={{bl,lq,dl,hl,vb,hv,ag,st _ _ ag,gO.same sZ kv,bz _ _ (W _ _ ry (ro rf nh.2.1)) rf,bz _ _ (W _ _ px (ro mt nh.2.2)) mt,bz _ _ O qb,Paired.mono (fun v q z=>(z.keepI ls).base lw) pi,lR,lx,io,mb},kb,ly,hY,by omega,by omega,ld,by omega,wb,oi};have pb:=pe _ _ ra ri;have md:∀ys,upd (upd Gx bl (.lst vb)) t (.tup [.str nm,.ref bl,.ref lq,.ref dl,.ref hl]) fl≠some (.tup ys):=fun ys z=>by
    rw[pb]at z
    cases z
   have rr:Dm G2 G:=kG.dm fun a z=>by
    simp only[ar,aK,or_false]at z
    rcases z with rfl|rfl
    ·obtain⟨x,y,e⟩:=I;exact{_,e}
    ·exact{_,ra}
   refine{fl,xs,.ref t,rfl,rfl,pb,by omega,?_};refine{_,_,_,_,_,_,xs++[.ref t],Ms++[⟨nm,bs,qs,ds,hs,ps⟩],rfl,aS (pe _ _ hG js) lc,ag,?_,by rw[aA,lM];rfl,uy (mu.same sZ) ri,fun b o e nb=>?_}
   ·exact eP (Paired.mono (fun v M z=>(z.but py I pe).old nl md) pM) (MIn.old nl md {t,rfl,iF.base rr})
   ·have n1:b≠fl:=fun z=>nb (by simp[z]);have n2:b≠p:=fun z=>nb (by simp[z]);rw[aO n1];exact pe _ _ (kG _ _ e nb) n2
 ·rintro σ G ⟨u3,u4,u5,u6,u7,u8,xs,Ms,rfl,hG,ra,pM,lM,I,kG⟩;dsimp only;rw[ao,mv]at lM;have bH:But p H G:=fun b o e nb=>kG _ _ (b2 _ _ e nb) fun z=>by
   simp only[ar,aK,or_false]at z;exact z.elim nb (av e ka)
  have rr:Dm H G2:=b2.dm py;exact eS {_,rfl,k fl xs Ms G ra (by rw[lM];exact Paired.mono (fun v M ⟨t,e,z⟩=>{t,e,z.base rr}) pM) (by omega) (by omega) ri I bH}
end
theorem KN{r:Int}(h0:0<=r)(h1:r<4):∃x:Str,atI [V.str "go",.str "on",.str "stop",.str "odd"] r=some (.str x):=by
 obtain⟨x,hx,_⟩:=kE (bs:=["go","on","stop","odd"]) h0 h1;exact⟨x,hx⟩
section
variable{P:aN}{w:bL}{K:ae}{mg:Str->Option af}{base:cz}{f fD fW fSg:aa}{fd fdD fdW fdSg:bR}
seal PS PSs PE PA PT PW PI PG PGs PC
abbrev nSg:List Str:=["_law_purse_here","_law_many","_law_time","_law_rank","_law_to","_law_sign_here"]
abbrev pSg:List Str:=["_law_purse_here","_law_many"]
theorem Iq:bM nSg pSg (aM lV):={}
inductive Md(vs:List V)(H:Hp)(Q:VK)(_e:XK):Prop where
 |mk(p:aa)(m:Nat)(_:vs=[.ref p,.int m])(_:dE H p)(_:0<m)(_:m<1000)(_:∀(v:V) (e:Ev) (H':Hp),tj H' v e->wV m e->dE H' p->But p H H'->Q v H'):Md vs H Q _e
def Ox:Sp:=fun vs H Q Z=>Md vs H Q Z
theorem Me(D:Df K mg "_law_sign" lV pSg f fd)(Z:Df K mg "_law_draw" dY pD fD fdD)(W:Df K mg "_law_worth" fX pW fW fdW)(B:Bl mg):bA P w K mg base CX0 3 f fd pSg Ox:=by
 have J:bA P w K mg base CX0 1 fD fdD pD jt:=jm Z;have GW:bA P w K mg base CX0 2 fW fdW pW vK:=xk W Z B;refine D.F.ok Iq (fun vs H Q E h=>?_) (fun dG A outer s H vs Q E hr h=>?_)
 ·obtain⟨p,m,rfl,_⟩:=h;rfl
 obtain⟨p,m,rfl,pu,m0,m1,k⟩:=h;have r1:cQ 1 _:=hr.mono (by decide);have r2:cQ 2 _:=hr;refine⟨_,ai (bh (i:=2) Iq.nd rfl (Or.inl rfl) (aL J r1 (by rfl) Z.m Z.F.kp Z.b .nil bC (bE (pv 0) (l9 (bP cJ (eA (dB aw (qU (cV gP (cV tU aw aw) aw) aj))) (hJ qX (by rfl) B.int boot_int (au (mK eN (aL J r1 (by rfl) Z.m Z.F.kp Z.b .nil bC (bE (pv 0) (dB aw aj))) aw (bX _)) aj)) (fun _ _=>rfl)) aj))))
  (ai (bh (i:=3) Iq.nd rfl (Or.inl rfl) (aL J r1 (by rfl) Z.m Z.F.kp Z.b .nil bC (bE (pv 0) (dB aw aj))))
  (ai (bh (i:=4) Iq.nd rfl (Or.inl rfl) (aL J r1 (by rfl) Z.m Z.F.kp Z.b .nil bC (bE (pv 0) (bE (pv 1) aj))))
  (ai (bh (i:=5) Iq.nd rfl (Or.inl rfl) (bP cJ (eA (dB cb (dB cb (dB cb (dB cb aj))))) (aL J r1 (by rfl) Z.m Z.F.kp Z.b .nil bC (bE (pv 0) (dB aw aj))) (fun _ _=>rfl)))
  (ay (bN (eD (bE (pv 2) (bE (pv 3) (bE (pv 4) (bE (pv 5) (jc (aL GW r2 (by rfl) W.m W.F.kp W.b .nil bC (bE (pv 0) aj)) (jc (aL GW r2 (by rfl) W.m W.F.kp W.b .nil bC (bE (pv 0) aj)) aj)))))))))))),?_⟩
 have big:=dW;have c6:Ei 10 6:={by decide,by decide,by decide};refine cg (cL {_,rfl,_,_,rfl,rfl,c6,_,_,rfl,rfl,lt2,fun l0 Y=>?_});have s0:=aF Y (.lst [.int 12,.int ((10:Int)^(6:Int).toNat+1)]);refine{_,rfl,p,8,rfl,pu.same s0,by decide,by decide,fun r G r0 r8 M g=>{rfl,.inr {_,rfl,l0,_,_,_,rfl,rfl,SqL.of (g _ _ ag (ux pu Y)),zD,?_}}};obtain⟨mm,em,z⟩:∃m:Int,(if decide (V.int r=V.int 7)=true then V.int ((10:Int)^(6:Int).toNat+1) else V.int 12)=.int m/\(0<m/\m<=1000001):=by
  by_cases c:V.int r=V.int 7
  ·rw[decide_eq_true c];exact{_,rfl,by decide}
  ·rw[decide_eq_false c];exact{12,rfl,by decide}
 refine tE ?_;show jt [V.ref p,(if decide (V.int r=V.int 7)=true then V.int ((10:Int)^(6:Int).toNat+1) else V.int 12)] _ _ _;rw[em];refine{p,mm,rfl,M,z.1,by omega,fun I G1 dz dV eb b1=>aY ?_};have b1:But p H G1:=((But.same (But.refl p H) s0).trans g).trans b1;clear g M s0 Y;dsimp only;refine cg (cL {_,rfl,p,10,rfl,eb,by decide,by decide,fun rk G2 dL dv ea b2=>aY ?_});dsimp only;refine cg (cL {_,rfl,_,rfl,p,m,rfl,ea,by omega,by omega,fun to G3 to0 to1 O b3=>aY ?_});dsimp only;refine cg (cL {by show 4<=aB;omega,fun l3 U=>?_});have s3:=aF U (.lst [.str "go",.str "on",.str "stop",.str "odd"]);refine{_,rfl,p,4,rfl,O.same s3,by decide,by decide,fun x G4 x0 x4 ee b4=>?_};obtain⟨sg,ef⟩:=KN x0 x4;refine{l3,_,_,_,rfl,rfl,SqL.of (b4 _ _ ag (ux O U)),ef,aY ?_};dsimp only;refine eS {_,rfl,_,rfl,_,rfl,_,rfl,_,rfl,p,rfl,ee,fun va G5 a0 a1 ec b5=>{_,rfl,p,rfl,ec,fun vb G6 c0 c1 ed b6=>{by show 6<=aB;omega,fun t ht=>?_}}};have st:=aF ht (.tup [.int I,.int rk,.int to,.str sg,.int va,.int vb]);exact k _ {I,rk,0,0,to,sg,va,vb} _ ⟨t,rfl,ag⟩ {to0,to1,uz {by show -1000000<=I;omega,by show I<=1000000;omega},⟨a0,a1⟩,⟨c0,c1⟩} (ed.same st) (((((((b1.trans b2).trans b3).same s3).trans b4).trans b5).trans b6).same st)
abbrev nSs:List Str:=["_law_purse_here","_law_many"]
abbrev pSs:List Str:=["_law_purse_here","_law_many"]
theorem scSs:bM nSs pSs (aM km):={}
theorem ndSs:((["_law_k"]:List Str)++nSs).Nodup:=by decide +kernel
inductive Mf(vs:List V)(H:Hp)(Q:VK)(_e:XK):Prop where
 |mk(p:aa)(m:Nat)(_:vs=[.ref p,.int m])(_:dE H p)(_:0<m)(_:m<1000)(_:∀(l:aa) (svs:List V) (es:List Ev) (H':Hp),H' l=some (.lst svs)->aP (tj H') svs es->es.length<60->(∀e∈es,wV m e)->l≠p->dE H' p->But p H H'->Q (.ref l) H'):Mf vs H Q _e
def spSs:Sp:=fun vs H Q Z=>Mf vs H Q Z
theorem ok_ss(D:Df K mg "_law_signs" km pSs f fd)(Y:Df K mg "_law_sign" lV pSg fSg fdSg)(W:Df K mg "_law_draw" dY pD fD fdD)(DW:Df K mg "_law_worth" fX pW fW fdW)(B:Bl mg):bA P w K mg base CX0 4 f fd pSs spSs:=by
 have GD:bA P w K mg base CX0 1 fD fdD pD jt:=jm W;have cd:bA P w K mg base CX0 3 fSg fdSg pSg Ox:=Me Y W DW B;refine D.F.ok scSs (fun vs H Q E h=>?_) (fun ca A outer s H vs Q E hr h=>?_)
 ·obtain⟨p,m,rfl,_⟩:=h;rfl
 obtain⟨p,m,rfl,pu,m0,m1,k⟩:=h;have r1:cQ 1 _:=hr.mono (by decide);have r3:cQ 3 _:=hr;refine{_,ay (bN (mP ["_law_k"] (iI.open (NN:=nSs) (N:=nSs) (sc:=aM km) rfl rfl (by decide +kernel) rfl (by decide +kernel) (by decide +kernel) rfl (by decide +kernel)) rfl (iV (by rfl) B.range (jc (aL GD r1 (by rfl) W.m W.F.kp W.b .nil bC (bE (pv 0) (l9 (bP cJ (eA (dB aw (dB aw aj))) (hJ qX (by rfl) B.int boot_int (au (mK eN (aL GD r1 (by rfl) W.m W.F.kp W.b .nil bC (bE (pv 0) (dB aw aj))) aw (bX _)) aj)) (fun _ _=>rfl)) aj))) aj)) (fun _ _ _ _=>dO (i:=0) ndSs rfl (Or.inl rfl)) (fun _ _ _ _=>jY) (fun _ _ _ _=>aL cd r3 (by rfl) Y.m Y.F.kp Y.b .nil bC (bE (pv 1) (bE (pv 2) aj))))),?_};have big:=dW;refine eS ?_;refine uw (fun n G=>n<20/\dE G p/\But p H G) (fun R hR=>{_,rfl,lt2,fun l0 M=>?_}) (fun n G h=>by have:=h.1;omega) (fun n _ i ys G=>∃es:List Ev,aP (tj G) ys es/\es.length=i/\(∀e∈es,wV m e)/\dE G p/\But p H G) (fun n G h=>{[],.nil,rfl,(fun e g=>by cases g),h.2.1,h.2.2}) ?_ ?_ ?_
 ·have s0:=aF M (.lst [.int 6,.int 20]);refine{_,rfl,p,6,rfl,pu.same s0,by decide,by decide,fun r G r0 r8 Z O=>{rfl,.inr {_,rfl,l0,_,_,_,rfl,rfl,SqL.of (O _ _ ag (ux pu M)),zD,?_}}};obtain⟨mm,em,I⟩:∃m:Int,(if decide (V.int r=V.int 5)=true then V.int 20 else V.int 6)=.int m/\(0<m/\m<=20):=by
   by_cases c:V.int r=V.int 5
   ·rw[decide_eq_true c];exact{20,rfl,by decide}
   ·rw[decide_eq_false c];exact{6,rfl,by decide}
  rw[em];refine{p,mm,rfl,Z,I.1,by omega,fun x G1 x0 x1 U J=>?_};obtain⟨n,rfl⟩:∃n:Nat,x=(n:Int):={x.toNat,by omega};exact hR n G1 {by omega,U,((But.same (But.refl p H) s0).trans O).trans J}
 ·rintro n G0 h i ys G hi ⟨es,h1,h2,_⟩;have:=h.1;have:=aZ h1;omega
 ·rintro n G0 h i ys G hi ⟨es,h1,h2,h3,Z,O⟩;refine{rfl,?_};unfold xK;refine iH ?_;refine{_,rfl,_,rfl,p,m,rfl,Z,m0,m1,fun v e G1 hv g U J=>{es++[e],eP (Paired.mono (fun v e ⟨t,e',h⟩=>{t,e',dX.but Z J _ _ h (pC _)}) h1) hv,by rw[aA,h2];rfl,fun e' h'=>?_,U,O.trans J}}
  rcases bY.mp h' with z|z
  ·exact h3 e' z
  ·rw[aE.mp z];exact g
 ·rintro n G0 h ys G ⟨es,h1,h2,h3,Z,O⟩ l hl;have st:=aF hl (.lst ys);exact k l ys es _ ag (Paired.mono (fun _ _ z=>z.same st) h1) (by have:=h.1;omega) h3 (ux Z hl) (Z.same st) (O.same st)
end
end My
namespace L2
open PySem PySem.Spec PyProof.Rows
theorem KO{vs:List af}{ns:List Int}(h:dN vs ns):cX (ns.map V.int) vs:=by
 induction h with
 |nil=>exact .nil
 |cons n t _ Z=>exact .cons ⟨t,rfl⟩ Z
section
variable{prog:aN}{w:bL}{A:bZ}{E:af->ak->Prop}{s:ak}
theorem zG{K:Type}[DecidableEq K]{knd:Ld prog w K}{d:aa}{kvs:List (K×af)}{I:List Int}{Q:af->ak->Prop}(hh:A.handled=none)(lo:(d==ff)=false)(hm:s.heap.DictOf knd d kvs)(M:kvs.length<64)
  (hk:∀vs:List af,vs.length=kvs.length->(∀(j:Nat) (v:af),vs[j]?=some v->∃k x,kvs[j]?=some (k,x)/\knd.is k v=true)->dN vs I)
  (h:∀(h1 h2:cz) (tk:Nat) (O:List af) (Y:List Int) (e:Nat),(∀b o,s.heap.get? b=some o->h1.get? b=some o)->(∀b o,h1.get? b=some o->h2.get? b=some o)->h2.get? h1.objs.size=some {cls:=.type "list",data:=.seq O.toArray e}->dN O Y->Y.Perm I->Y.Pairwise (·<=·)->Q (.ref h1.objs.size) {s with heap:=h2,toks:=tk}) :
  aX (bf prog w) A (xu (.builtin "sorted") [.ref d]) Q E s:=by
 obtain⟨ep,J⟩:=hm.dictAt;refine Calls.call_function_entry JN Gs Gu (args_sorted1 _) ?_;unfold iB.«sorted»;refine ax (m:=NB "sorted" 1 1 _) (bK ?_);have sl:64<=aB:=by decide
 refine ax (PySem.W.kdu_collect (A:=A.in1) (PySem.W.kdl_dict (knd:=knd) (kvs:=kvs) (ep:=ep) lo) hh J (by omega) fun h' tk Z H V=>?_);have hl:Z.toList.length=kvs.length:=by rw[fK];exact V.1
 have z:dN Z.toList I:=hk Z.toList hl fun j v e=>V.2 j v (by rw[<- jX];exact e);refine ax (qA ?_ (by rw[hl];omega));have U:(h'.push (dQ "list" Z.toList.toArray 0)).get? h'.objs.size=some (dQ "list" Z.toList.toArray 0):=cy _ rfl;refine ax (e7 (rE BJ {_,U,rfl} Av (list_sort_tree (s:={s with heap:=h'.push (dQ "list" Z.toList.toArray 0),toks:=tk}) U z (by rw[hl];exact M) fun out Y b1 b2 t=>{_,rfl,?_}) (args_list_sort _)));obtain⟨e,g⟩:=sortedHeap_at (out:=out) U;refine bK {_,rfl,h h' _ tk out.toList Y e H (fun b o D=>?_) g b1 b2 t};have lt:=aQ D;rw[sortedHeap_old (aR lt) (by rw[rJ];exact iS lt)];exact aJ _ D
end
section
variable{X:Cx}
theorem EZ{P:aN}{w:bL}:∀(kvs:List (Key×V)) (Z:List Int) (Y:List (Key×af)),KV kvs Y->kvs.map (·.1)=Z.map Sum.inl->∀vs:List af,vs.length=Y.length->(∀(j:Nat) (v:af),vs[j]?=some v->∃k x,Y[j]?=some (k,x)/\(eY P w).is k v=true)->dN vs Z:=by
 intro kvs
 induction kvs with
 |nil=>
  intro Z Y k e vs hl _
  cases k
  cases Z with
  |nil=>
   cases vs with
   |nil=>exact .nil
   |cons _ _=>cases hl
  |cons _ _=>cases e
 |cons kv r ih=>
  intro Z Y k e vs hl hv
  cases k with
  |@cons _ M _ wr z O=>
   cases Z with
   |nil=>cases e
   |cons x W=>
    rw[b9,b9]at e;injection e with e1 H
    cases vs with
    |nil=>cases hl
    |cons v vr=>
     obtain⟨U,D,a,b⟩:=hv 0 v rfl;have a:M=(U,D):=dM a;have I:U=Sum.inl x:=by
      rw[<- e1,z.1,a]
     subst I;obtain⟨t,rfl⟩:=E9 (show A8 x v=true from b);exact .cons x t (ih W wr O H vr (IZ hl) fun j J g=>hv (j+1) J g)
theorem zH(hc:X.calm=true):lF X (.builtin "sorted") (fun xs H Q=>∃p Y kvs,xs=[V.ref p]/\H p=some (.dK kvs)/\kvs.map (·.1)=Y.map Sum.inl/\Y.length<64 /\
  ∀(l:aa) (Z:List Int),H l=none->Z.Perm Y->Z.Pairwise (·<=·)->Q (.ref l) (upd H l (.lst (Z.map V.int)))):=by
 intro pins s σ H xs us Q I r h;obtain⟨p,Y,kvs,rfl,hp,hk,D,q⟩:=h;obtain⟨u,rfl,ru⟩:=vals1 r
 cases ru;have sl:64<=aB:=by decide
 obtain⟨_,n1,ws,k1,m1⟩:=(show eE X.prog X.w H s.heap p (.dK kvs) from I.hok p _ hp);have t:=congrArg jy hk;rw[ao,ao]at t;refine zG (knd:=eY X.prog X.w) (I.ok.hd hc) n1 m1 (by rw[<- k1.length];omega) (EZ kvs Y ws k1 hk) fun h1 h2 tk U Z e O W he b1 J g=>?_;have M:Inv X pins σ H {s with heap:=h1,toks:=tk}:=I.kept (t':=tk) O;have z:=M.laid (a:=h1.objs.size) (o:=.lst (Z.map V.int)) (t':=tk) (h':=h2) W (aD _) {by rw[ao,J.length_eq];omega,U,e,KO b1,he};exact{.ref h1.objs.size,_,z,rfl,q _ Z (M.hok.fresh (aD _)) J g}
end
end L2
namespace My
open PySem L2
section
variable{Ms:List MD}{r:RS}
theorem Oy{Z:Int}(mo:uv Ms):∀{i:Nat},(∀j,j<i->ROk Ms.length (itR Ms r j).1/\gT (itR Ms r j).1 (Z-(itR Ms r j).2.length)=none)->(∀j,j<i->(itR Ms r j).2.length=j)/\(itR Ms r i).2.length<=i
 |0,_=>{fun j V=>absurd V (gW _),aD _}
 |i+1,h=>by
  obtain⟨h2,J⟩:=Oy (i:=i) mo fun j V=>h j (by omega);have U:=iA (h i (by omega)).2;have O:=(h i (by omega)).1;obtain⟨_,s2⟩:=tF (mZ mo O U.2.1);have li:(itR Ms r i).2.length=i:=by
   cases i with
   |zero=>rfl
   |succ i=>
    -- the turn ahead of it told a record, else it would be over
    have e:(itR Ms r (i+1)).2=(itR Ms r i).2++(fY Ms (itR Ms r i).1).2:=rfl;have M:=iA (h i (by omega)).2;obtain⟨_,Y⟩:=tF (mZ mo (h i (by omega)).1 M.2.1)
    rcases Y with⟨q,eq⟩|⟨_,sp,W⟩
    ·rw[e,eq,aA,h2 i (by omega)];rfl
    ·have:(itR Ms r (i+1)).1.sp=some sp:=W;rw[U.1]at this
     cases this
  refine{fun j V=>?_,?_}
  ·rcases ve j i with z|z
   ·exact h2 j z
   ·have:j=i:=by omega
    rw[this];exact li
  ·have e:(itR Ms r (i+1)).2=(itR Ms r i).2++(fY Ms (itR Ms r i).1).2:=rfl;rw[e,aA,li]
   rcases s2 with⟨q,eq⟩|⟨eq,_⟩
   ·rw[eq];exact aD _
   ·rw[eq];exact gp _
theorem yD{Z:Int}{i:Nat}{e:End}(mo:uv Ms)(s:kT Ms r Z i e)(m0:0<=Z):((itR Ms r i).2.length:Int)<=Z:=by
 cases i with
 |zero=>
  show ((0:Nat):Int)<=Z;omega
 |succ i=>
  obtain⟨h1,h2⟩:=Oy mo s.1;have d:=iA (s.1 i (by omega)).2;have:=h1 i (by omega);omega
theorem xl{r:RS}{a b:Int}(h:gT r a=none)(l:a<=b):gT r b=none:=by
 obtain⟨h1,h2,Z⟩:=iA h;unfold gT;rw[h1];dsimp only;rw[if_neg,if_neg (by omega)];intro z;exact h2 (I9.mp z)
end
theorem rq(Ms:List MD)(r:RS)(i:Nat):∀j:Nat,itR Ms r (i+j)=((itR Ms (itR Ms r i).1 j).1,(itR Ms r i).2++(itR Ms (itR Ms r i).1 j).2)
 |0=>by
  show itR Ms r i=((itR Ms r i).1,(itR Ms r i).2++[]);rw[cv]
 |j+1=>by
  show ((fY Ms (itR Ms r (i+j)).1).1,(itR Ms r (i+j)).2++(fY Ms (itR Ms r (i+j)).1).2)=_;rw[rq Ms r i j];show _=((fY Ms (itR Ms (itR Ms r i).1 j).1).1,(itR Ms r i).2++((itR Ms (itR Ms r i).1 j).2++(fY Ms (itR Ms (itR Ms r i).1 j).1).2));rw[jP]
structure Mrk(Ms:List MD)(es:List Ev)(n:Nat)(r:RS):Prop where
 e:r=(itR Ms (eG Ms es) n).1
 l:∀j,j<=n->(itR Ms (eG Ms es) j).2.length=j
 d:∀j,j<n->ROk Ms.length (itR Ms (eG Ms es) j).1/\gT (itR Ms (eG Ms es) j).1 1=none
theorem KP{r:RS}{k:Int}(h:gT r k=none):gT r 1=none:=by
 obtain⟨h1,h2,Z⟩:=iA h;unfold gT;rw[h1];dsimp only;rw[if_neg (fun z=>h2 (I9.mp z)),if_neg (by decide)]
theorem Mg(Ms:List MD)(es:List Ev):Mrk Ms es 0 (eG Ms es):=⟨rfl,fun j Z=>by
 have:j=0:=by omega
 subst this;rfl,fun j Z=>absurd Z (gW _)⟩
section
variable{Ms:List MD}{es:List Ev}{n i:Nat}{r:RS}{k:Int}{e:End}
theorem Mrk.full(mo:uv Ms)(m:Mrk Ms es n r)(s:kT Ms r k i e)(l:((itR Ms r i).2.length:Int)=k):Mrk Ms es (n+i) (itR Ms r i).1/\(i:Int)=k:=by
 obtain⟨Z,U⟩:=Oy mo s.1;have ik:(i:Int)=k:=by
  cases i with
  |zero=>exact l
  |succ i=>
   have d:=(iA (s.1 i (by omega)).2).2.2;rw[Z i (by omega)]at d;omega
 have Y:=m.e;subst Y;have add:=rq Ms (eG Ms es) n;refine{{by rw[add i],fun j W=>?_,fun j W=>?_},ik}
 ·by_cases c:j<=n
  ·exact m.l j c
  ·obtain⟨d,rfl⟩:∃d,j=n+d:={j-n,by omega};rw[add d];show ((itR Ms (eG Ms es) n).2++_).length=n+d;rw[aA,m.l n (aD _)]
   by_cases V:d<i
   ·rw[Z d V]
   ·have:d=i:=by omega
    rw[this];omega
 ·by_cases c:j<n
  ·exact m.d j c
  ·obtain⟨d,rfl⟩:∃d,j=n+d:={j-n,by omega};rw[add d];have q:=s.1 d (by omega);exact{q.1,KP q.2}
theorem Mrk.on(m:Mrk Ms es n r)(s:kT Ms r k i e)(k0:0<=k):kT Ms (eG Ms es) (n+k) (n+i) e/\(itR Ms (eG Ms es) (n+i)).2.drop n=(itR Ms r i).2:=by
 have Z:=m.e;subst Z;have add:=rq Ms (eG Ms es) n;have len:∀d,((n:Int)+k)-(itR Ms (eG Ms es) (n+d)).2.length=k-(itR Ms (itR Ms (eG Ms es) n).1 d).2.length:=fun d=>by
  rw[add d];show (n:Int)+k-((itR Ms (eG Ms es) n).2++_).length=_;rw[aA,m.l n (aD _)];omega
 refine{{fun j Y=>?_,?_,?_},?_}
 ·by_cases c:j<n
  ·have q:=m.d j c;refine{q.1,xl q.2 ?_};rw[m.l j (by omega)];omega
  ·obtain⟨d,rfl⟩:∃d,j=n+d:={j-n,by omega};have q:=s.1 d (by omega);rw[len d,add d];exact q
 ·rw[len i,add i];exact s.2.1
 ·rw[add i];exact s.2.2
 ·rw[add i];show ((itR Ms (eG Ms es) n).2++_).drop n=_;rw[List.drop_append,m.l n (aD _),mH,yf,List.drop_of_length_le (Bi (m.l n (aD _))),lC]
end
structure Rst(Ms:List MD)(r:RS):Prop where
 ok:ROk Ms.length r
 wk:∀(i:Nat) (M:MD) (s:Sta),Ms[i]?=some M->r.sts[i]?=some s->qK M.bs M.qs s.w
def CoK(CC CS m:aa)(F:Hp)(c:aa)(r:RS):Prop:=∃(dx sl pl:aa) (Y sv:V) (Z:List aa) (ps:List V),F c=some (.ins CC dx (iz (.ref m) (.ref sl) (.ref pl) Y sv))/\zw F Y r.re/\zx F sv r.sp/\F sl=some (.lst (Z.map V.ref))/\aP (StA CS F) Z r.sts/\F pl=some (.lst ps)/\aP (hZ F) ps r.pd
theorem CoK.same{CC CS m:aa}{F G:Hp}(s:aV F G){c:aa}{r:RS}(h:CoK CC CS m F c r):CoK CC CS m G c r:=by
 obtain⟨dx,sl,pl,O,sv,Y,ps,h1,h2,M,Z,U,V,W⟩:=h;exact{dx,sl,pl,O,sv,Y,ps,s _ _ h1,h2.same s,M.same s,s _ _ Z,Paired.mono (fun _ _ z=>jO.same' s z) U,s _ _ V,Paired.mono (fun _ _ z=>z.same s) W}
theorem iL.rst{CC CS:aa}{Ms:List MD}{Hb G:Hp}{ex:Ex}{co m sl pl:aa}{r:RS}(c:iL CC CS Ms Hb ex G co m sl pl r):Rst Ms r:=⟨c.ok,c.wk⟩
theorem iL.weak{CC CS:aa}{Ms:List MD}{Hb Z G:Hp}{ex:Ex}{co m sl pl:aa}{r:RS}(s:aV Z Hb)(c:iL CC CS Ms Hb ex G co m sl pl r):iL CC CS Ms Z ex G co m sl pl r:={c.ok,fun b o e=>c.sm b o (s _ _ e),c.i1,c.i2,c.i3,c.n1,c.n2,c.n3,c.hc,c.hs,c.hp,c.wk,c.nt}
theorem iL.k{CC CS:aa}{Ms:List MD}{Hb G:Hp}{ex:Ex}{co m sl pl:aa}{r:RS}(c:iL CC CS Ms Hb ex G co m sl pl r):CoK CC CS m G co r:=by
 obtain⟨dx,O,sv,h1,h2,M⟩:=c.hc;obtain⟨Y,Z,U⟩:=c.hs;obtain⟨ps,V,W⟩:=c.hp;exact{dx,sl,pl,O,sv,Y,ps,h1,h2.same dD,M.same dD,Z,Paired.mono (fun _ _ z=>jO.same' dD z) U,V,Paired.mono (fun _ _ z=>z.same dD) W}
theorem xm{Z Y:Type}{R:Z->Y->Prop}:∀{xs:List Z} {ys:List Y} {i:Nat} {x:Z},aP R xs ys->xs[i]?=some x->∃y,ys[i]?=some y/\R x y
 |_,_,0,_,.cons a _,e=>by
  cases e;exact{_,rfl,a}
 |_,_,i+1,_,.cons _ r,e=>xm (i:=i) r e
theorem HG.hid{CS:aa}{H0 H G:Hp}{st:aa}{bx:List (Str×Int)}{qu:List (Str×List Int)}{dr:Nat}{se:Int}{dxs bd qd:aa}{qa:List (Str×aa)}(s:aV H0 H)(n:HG CS H G st bx qu dr se dxs bd qd qa):jO CS (Hid {[],H0} G) st bx qu dr se:=by
 have v:∀{a:aa} {o:HO},a∈st::bd::qd::qa.map (·.2)->G a=some o->Hid {[],H0} G a=some o:=fun m e=>by
  rw[dS (iJ (none_of s (n.fr _ m)))];exact e
 exact{dxs,bd,qd,qa,v (by simp) n.hst,v (by simp) n.hb,v (by simp) n.hq,n.hl.hid fun a m=>iJ (none_of s (n.fr a (by simp only[ar];exact .inr (.inr (.inr m)))))}
theorem zw.hid{ex:Ex}{G:Hp}(nt:∀a∈ex,∃o,G a=some o/\∀xs,o≠.tup xs){v:V}:∀{q:Option Ev},zw G v q->zw (Hid ex G) v q
 |none,h=>h
 |some _,⟨k,e,h⟩=>{k,e,gA nt h}
theorem zx.hid{ex:Ex}{G:Hp}(nt:∀a∈ex,∃o,G a=some o/\∀xs,o≠.tup xs){v:V}:∀{q:Option Stp},zx G v q->zx (Hid ex G) v q
 |none,h=>h
 |some (.fin _),⟨t,k,e,h1,h2⟩=>{t,k,e,gA nt h1,gA nt h2}
 |some (.flt _ _),⟨t,k,e,h1,h2⟩=>{t,k,e,gA nt h1,gA nt h2}
section
variable{P:aN}{w:bL}{K:ae}{mg:Str->Option af}{base:cz}{f fCp fCI CC CM CS:aa}{fd fdCp fdCI:bR}
seal PS PSs PE PA PT PW PI PG PGs PC
abbrev nCc:List Str:=["self","other"]
abbrev pCc:List Str:=["self"]
theorem scCc:bM nCc pCc (aM gR):={}
theorem ndCc:((["state"]:List Str)++nCc).Nodup:=by decide +kernel
inductive Ir(CC CS:aa)(vs:List V)(H:Hp)(Q:VK)(_e:XK):Prop where
 |mk(Ms:List MD)(c m:aa)(r:RS)(_:vs=[.ref c])(_:CoK CC CS m H c r)(_:Rst Ms r)(_:Ms.length<1000)(_:r.pd.length<=1000000)(_:∀(G:Hp) (c' sl pl:aa),iL CC CS Ms H ⟨[c',sl,pl],H⟩ G c' m sl pl r->Q (.ref c') G):Ir CC CS vs H Q _e
def Iu(CC CS:aa):Sp:=fun vs H Q Z=>Ir CC CS vs H Q Z
theorem zI(F:Fun K "copy" "Course.copy" gR f fd)(el:Mt K CS "copy" "State.copy" iY ["self"] fCp fdCp)(ea:bA P w K mg base CX0 3 fCp fdCp ["self"] (BY CS))(MC:Mk K CC fCI)(ee:bA P w K mg base CX0 1 fCI fdCI ["self","model","states","pending"] (Oj CC))(ec:Binds K fdCI ["self","model","states","pending"] [])(T:CoT K mg CC)(TM:MdT K mg CM CS)(B:Bl mg) :
  bA P w K mg base CX0 4 f fd pCc (Iu CC CS):=by
 refine F.ok scCc (fun vs H Q E h=>?_) (fun dv A outer s H vs Q E hr h=>?_)
 ·obtain⟨Ms,c,m,r,rfl,_⟩:=h;rfl
 obtain⟨Ms,c,m,r,rfl,hc,hR,lM,lp,k⟩:=h;have r2:cQ 2 _:=hr.mono (by decide);have r3:cQ 3 _:=hr;refine⟨_,ai (bh (i:=1) scCc.nd rfl (Or.inl rfl) (jW MC ee r2 (by rfl) T.m ec .nil bC (au (eg K (by rfl) (pv 0) (by rfl)) (au (mP ["state"] (iI.open (NN:=nCc) (N:=nCc) (sc:=aM gR) rfl rfl (by decide +kernel) rfl (by decide +kernel) (by decide +kernel) rfl (by decide +kernel)) rfl (iU (eg K (by rfl) (pv 0) (by rfl))) (fun _ _ _ _=>dO (i:=0) ndCc rfl (Or.inl rfl)) (fun _ _ _ _=>jY) (fun _ _ _ _=>jh (pv 0) TM.clS el.m ea r3 el.b .nil bC)) (jc (hJ (AK K (by rfl)) (by rfl) B.list boot_list (au (eg K (by rfl) (pv 0) (by rfl)) aj)) aj)))))
  (ai (eJ (pv 1) (eg K (by rfl) (pv 0) (by rfl)) rfl)
  (ai (eJ (pv 1) (eg K (by rfl) (pv 0) (by rfl)) rfl)
  (ay (bN (pv 1))))),?_⟩
 have big:=dW;obtain⟨dx,sl,pl,g,sv,ss,ps,h1,h2,h3,h4,h5,h6,h7⟩:=hc;refine cg (cL (uo ?_));refine{_,rfl,c,CC,dx,_,_,rfl,h1,T.cl,T.nM,co_m _ _ _ _ _,?_};have dV:=aZ h5;have lst:=hR.ok.len;refine xj (K:=K) (a:=sl) (xs:=ss.map V.ref) (fun R h=>{_,rfl,c,CC,dx,_,_,rfl,h1,T.cl,T.nS,HS _ _ _ _ _,h}) (SqL.of h4) (fun i ys G=>∃U:List aa,ys=U.map V.ref/\aV H G/\aP (StA CS (Hid {[],H} G)) U (r.sts.take i)) {[],rfl,aV.refl _,by rw[jQ];exact .nil} ?_ ?_ ?_
 ·rintro i ys G hi ⟨U,rfl,D,p1⟩;have:=aZ p1;rw[c9]at this;rw[ao];exact{SqL.of (D _ _ h4),by omega}
 ·rintro i x ys G hi ⟨U,rfl,D,p1⟩;rw[cC]at hi;obtain⟨st,hst,rfl⟩:=iq.mp hi;obtain⟨sta,hs,hS⟩:=xm h5 hst;have il:=(aG.mp hs).1;have hM:Ms[i]?=some Ms[i]:=aI (by omega);have wk:=hR.wk i _ sta hM hs;have eo:=jO.same' D hS;obtain⟨dxs,bd,qd,qa,g1,_⟩:=id eo;have kq:sta.qu.map (·.1)=Ms[i].qs:=wk.kq;have lq:sta.qu.length<100:=by
   have:=congrArg jy kq;rw[ao]at this;have:=wk.fw;rw[aA]at this;omega
  refine{rfl,?_};unfold xK;refine iH ?_;refine{_,rfl,st,dxs,_,rfl,g1,rfl,st,sta.bx,sta.qu,sta.dr,sta.se,rfl,eo,by rw[kq];exact wk.nq,lq,fun G' ei dL dz dt dG N=>{U++[ei],by rw[bT];rfl,D.trans N.sm,?_}};rw[eR,hs];exact eP (Paired.mono (fun _ _ z=>jO.same' (gv N.sm) z) p1) (N.hid D)
 rintro ys G ⟨U,rfl,D,p1⟩ Z J;rw[ao,dV,dZ]at p1;have u1:=aF J (.lst (U.map V.ref));refine{_,rfl,c,CC,dx,_,_,rfl,u1 _ _ (D _ _ h1),T.cl,T.nP,HU _ _ _ _ _,pl,ps,rfl,.inl (SqL.of (u1 _ _ (D _ _ h6))),fun Y M=>?_};have u2:=aF M (.lst ps);have s2:=(D.trans u1).trans u2;have q1:=u2 _ _ (jU J (.lst (U.map V.ref)));have q2:=jU M (.lst ps);have eh:H Z=none:=none_of D J;have ek:H Y=none:=none_of (D.trans u1) M;have eb:Z≠Y:=av (jU J _) M;have uG:=u1.trans u2;revert s2 q1 q2 uG;generalize upd (upd G Z (.lst (U.map V.ref))) Y (.lst ps)=G2;intro s2 q1 q2 uG;refine fun O W I em nc=>{O,W,_,_,_,rfl,ag,fun G3 er but=>{rfl,aY ?_}};dsimp only;have b3:∀b o,G2 b=some o->b≠O/\G3 b=some o:=fun b o e=>{av e I,but _ _ (aS (aS e (av e em)) (av e I)) (av e I)};refine cg {_,rfl,c,CC,dx,_,_,rfl,(b3 _ _ (s2 _ _ h1)).2,T.cl,T.nR,Oc _ _ _ _ _,_,rfl,O,CC,W,_,rfl,er,T.cl,T.nR,wZ _ _ _ _ _,?_};rw[De];have b4:∀b o,G2 b=some o->b≠O/\upd G3 O (.ins CC W (iz (.ref m) (.ref Z) (.ref Y) g .non)) b=some o:=fun b o e=>{(b3 b o e).1,aS (b3 b o e).2 (b3 b o e).1};refine cg {_,rfl,c,CC,dx,_,_,rfl,(b4 _ _ (s2 _ _ h1)).2,T.cl,T.nE,Kr _ _ _ _ _,_,rfl,O,CC,W,_,rfl,ag,T.cl,T.nE,wZ _ _ _ _ _,?_};rw[zy];have b5:∀b o,G2 b=some o->b≠O/\upd (upd G3 O (.ins CC W (iz (.ref m) (.ref Z) (.ref Y) g .non))) O (.ins CC W (iz (.ref m) (.ref Z) (.ref Y) g sv)) b=some o:=fun b o e=>{(b4 b o e).1,aS (b4 b o e).2 (b4 b o e).1};have q3:upd (upd G3 O (.ins CC W (iz (.ref m) (.ref Z) (.ref Y) g .non))) O (.ins CC W (iz (.ref m) (.ref Z) (.ref Y) g sv)) O=some (.ins CC W (iz (.ref m) (.ref Z) (.ref Y) g sv)):=ag;revert b5 q3;generalize upd (upd G3 O (.ins CC W (iz (.ref m) (.ref Z) (.ref Y) g .non))) O (.ins CC W (iz (.ref m) (.ref Z) (.ref Y) g sv))=G5;intro b5 q3;clear b4 b3 but er em;have s5:aV G2 G5:=fun b o e=>(b5 b o e).2;have sH:aV H G5:=s2.trans s5;have ef:O≠Z:=fun z=>(b5 _ _ q1).1 z.symm;have ed:O≠Y:=fun z=>(b5 _ _ q2).1 z.symm;have ej:H O=none:=none_of s2 I;have t:∀a∈({[O,Z,Y],H}:Ex),∃o,G5 a=some o/\∀xs,o≠.tup xs:=fun a ha=>by
  rcases ha with ha|⟨o,e,n⟩
  case inr=>exact{o,sH _ _ e,n}
  have ha:a∈[O,Z,Y]:=ha;simp only[ar,aK,or_false]at ha
  rcases ha with rfl|rfl|rfl
  ·exact{_,q3,fun xs z=>by cases z}
  ·exact{_,s5 _ _ q1,fun xs z=>by cases z}
  ·exact{_,s5 _ _ q2,fun xs z=>by cases z}
 have sS:aV (Hid {[],H} G) (Hid {[O,Z,Y],H} G5):=xg (uG.trans s5) fun a ha=>by
  simp only[ar,aK,or_false]at ha
  rcases ha with rfl|rfl|rfl
  ·exact none_of uG I
  ·exact J
  ·exact none_of u1 M
 dsimp only;refine eS {_,rfl,k G5 O Z Y {hR.ok,fun b o e=>{av e ej,av e eh,av e ek,sH _ _ e},.inl (by simp),.inl (by simp),.inl (by simp),ef,ed,eb,{W,g,sv,q3,zw.hid t (h2.same sH),zx.hid t (h3.same sH)},{U,s5 _ _ q1,Paired.mono (fun _ _ z=>jO.same' sS z) p1},{ps,s5 _ _ q2,Paired.mono (fun _ _ z=>hZ.hid t (z.same sH)) h7},hR.wk,t}}
end
def wit(x:Ev)(r:RS):RS:={r with pd:=kD x r.pd}
theorem yE{x h:Ev}(l:HT.lexLt h.key x.key=true):∀dl:List Ev,kD x (dl++[h])=kD x dl++[h]
 | []=>by
  show (if HT.lexLt x.key h.key=true then _ else _)=_;rw[HT.lx_asym l];rfl
 |y::ys=>by
  show (if HT.lexLt x.key y.key=true then y::kD x (ys++[h]) else x::y::(ys++[h]))=(if HT.lexLt x.key y.key=true then y::kD x ys else x::y::ys)++[h]
  by_cases c:HT.lexLt x.key y.key=true
  ·rw[if_pos c,if_pos c,yE l ys];rfl
  ·rw[if_neg c,if_neg c];rfl
section
variable{Ms:List MD}{x:Ev}
theorem Iv{r:RS}(mo:uv Ms)(k:ROk Ms.length r)(n:r.pd≠[])(hx:∀h,r.pd.getLast?=some h->HT.lexLt h.key x.key=true)(un:∀e∈r.pd,x.key≠e.key)(O:x.fr=-1):fY Ms (wit x r)=(wit x (fY Ms r).1,(fY Ms r).2):=by
 have Y:∀{h:Ev} {M:MD} {s:Sta},Did Ms r h M s->Did Ms (wit x r) h M s/\(wit x r).pd.dropLast=kD x r.pd.dropLast:=fun {h M s} d=>by
  have l:r.pd.getLast?=some h:=by rw[d.pd,i9]
  have e:(wit x r).pd=kD x r.pd.dropLast++[h]:=by
   show kD x r.pd=_
   conv=>lhs;rw[d.pd]
   exact yE (hx h l) _
  have Z:(wit x r).pd.dropLast=kD x r.pd.dropLast:=by rw[e,rN]
  exact{{by rw[Z];exact e,d.hM,d.hs},Z}
 cases mZ mo k n with
 |err h M s e d q eq=>
  obtain⟨d',Z⟩:=Y d;rw[qP d' q,eq,Z];rfl
 |ok h M s w d q N eq=>
  obtain⟨d',Z⟩:=Y d;rw[tu d' q,eq,Z];obtain⟨n1,n2,n3⟩:=wX k d N;have f:=k.fall;rw[d.pd]at f;obtain⟨f1,_⟩:=oF f;have W:h∈r.pd:=by
   rw[d.pd];exact bj _ (aE.mpr rfl)
  have h0:=(k.ev h W).to0;have V:∀y∈w.out,y.key≠x.key:=fun y hy=>nC (.inl (by rw[(n3 y hy).fr,O];omega));have ud:∀y∈r.pd.dropLast,x.key≠y.key:=fun y hy=>un y (eC _ hy);have g1:kS (kZ w.out (kD x r.pd.dropLast)):=lB (lA f1 ud) (fun y hy z J=>by
   rcases ar.mp ((ia x _).mem_iff.mp J) with e|e
   ·rw[e];exact V y hy
   ·exact n1 y hy z e) n2
  have I:kS (kD x (kZ w.out r.pd.dropLast)):=lA (lB f1 n1 n2) fun y hy=>by
   rcases bY.mp ((d8 _ _).mem_iff.mp hy) with e|e
   ·exact fun z=>V y e z.symm
   ·exact ud y e
  have U:(kZ w.out (kD x r.pd.dropLast)).Perm (kD x (kZ w.out r.pd.dropLast)):=by
   refine (d8 _ _).trans ?_;refine ((iK w.out).append (ia x _)).trans ?_;refine vJ.trans ?_;exact ((d8 _ _).symm.cons x).trans (ia x _).symm
  rw[uu g1 I U];rfl
theorem B9{r:RS}{h:Ev}(mo:uv Ms)(k:ROk Ms.length r)(l:r.pd.getLast?=some h):∀e∈(fY Ms r).1.pd,HT.lexLt h.key e.key=true:=by
 have n:r.pd≠[]:=fun z=>by
  rw[z]at l
  cases l
 have Z:∀{h':Ev},r.pd=r.pd.dropLast++[h']->h'=h/\∀e∈r.pd.dropLast,HT.lexLt h'.key e.key=true:=fun {h'} e=>by
  have f:=k.fall;rw[e]at f;refine{?_,(oF f).2};rw[e,i9]at l;exact dM l
 cases mZ mo k n with
 |err h' M s e d q eq=>
  rw[eq];obtain⟨rfl,lo⟩:=Z d.pd;exact lo
 |ok h' M s w d q N eq=>
  rw[eq];obtain⟨rfl,lo⟩:=Z d.pd;intro e Y
  rcases bY.mp ((d8 _ _).mem_iff.mp Y) with z|z
  ·obtain⟨_,new,e1,_,W,_⟩:=N;have e1:w.out=new:=e1;rw[e1]at z;exact key_t (W e z).t0
  ·exact lo e z
theorem KQ{r:RS}(mo:uv Ms)(k:ROk Ms.length r)(n:r.pd≠[]){P:Ev->Prop}(b:∀e∈r.pd,e.fr=-1->P e):∀e∈(fY Ms r).1.pd,e.fr=-1->P e:=by
 cases mZ mo k n with
 |err h M s e d q eq=>
  rw[eq];exact fun e Z=>b e (eC _ Z)
 |ok h M s w d q N eq=>
  rw[eq];have Y:h∈r.pd:=by
   rw[d.pd];exact bj _ (aE.mpr rfl)
  have h0:=(k.ev h Y).to0;intro e Z fr
  rcases bY.mp ((d8 _ _).mem_iff.mp Z) with z|z
  ·obtain⟨_,new,e1,_,W,_⟩:=N;have e1:w.out=new:=e1;rw[e1]at z;have:=(W e z).fr;omega
  ·exact b e (eC _ z) fr
end
def Oz(r:RS)(x:Ev):Prop:=∀h,r.re=some h->HT.lexLt h.key x.key=true
section
variable{Ms:List MD}{es:List Ev}{x:Ev}
theorem E1:eG Ms (es++[x])=wit (atP x es.length) (eG Ms es):=by
 unfold eG wit oH;rw[List.mapIdx_concat];unfold kZ;rw[uR];rfl
theorem Mh{e:Ev}(h:e∈oH es):e.c<es.length:=by
 obtain⟨i,hi⟩:=dH h;obtain⟨y,hy,rfl⟩:=rh hi;have:=(aG.mp hy).1;show (i:Int)<_;omega
theorem zJ(mo:uv Ms):∀{i:Nat},(∀j,j<i->ROk Ms.length (itR Ms (eG Ms es) j).1/\gT (itR Ms (eG Ms es) j).1 1=none)->∀e∈(itR Ms (eG Ms es) i).1.pd,e.fr=-1->e∈oH es
 |0,_,e,Z,_=>by
  rcases bY.mp ((d8 _ _).mem_iff.mp Z) with z|z
  ·exact z
  ·cases z
 |i+1,h,e,Z,fr=>KQ mo (h i (by omega)).1 (iA (h i (by omega)).2).2.1 (zJ mo (i:=i) fun j Y=>h j (by omega)) e Z fr
theorem OA(mo:uv Ms):∀{i:Nat},(∀j,j<i->ROk Ms.length (itR Ms (eG Ms es) j).1/\gT (itR Ms (eG Ms es) j).1 1=none)->∀h,(itR Ms (eG Ms es) i).1.re=some h->∀e∈(itR Ms (eG Ms es) i).1.pd,HT.lexLt h.key e.key=true
 |0,_,h,hr,e,Z=>by cases hr
 |i+1,H,h,hr,e,Z=>by
  have W:=OA mo (i:=i) fun j U=>H j (by omega);have q:=H i (by omega);have hr:(fY Ms (itR Ms (eG Ms es) i).1).1.re=some h:=hr;have Z:e∈(fY Ms (itR Ms (eG Ms es) i).1).1.pd:=Z
  cases mZ mo q.1 (iA q.2).2.1 with
  |err h' M s V d Y eq=>
   rw[eq]at hr Z;exact W h hr e (eC _ Z)
  |ok h' M s w d Y N eq=>
   have l:(itR Ms (eG Ms es) i).1.pd.getLast?=some h':=by rw[d.pd,i9]
   have z:=B9 mo q.1 l e Z;rw[eq]at hr
   cases hr;exact z
theorem KS(mo:uv Ms):∀{n:Nat},(∀j,j<n->ROk Ms.length (itR Ms (eG Ms es) j).1/\gT (itR Ms (eG Ms es) j).1 1=none)->(∀j,j<n->∀h,(itR Ms (eG Ms es) j).1.pd.getLast?=some h->HT.lexLt h.key (atP x es.length).key=true)->itR Ms (eG Ms (es++[x])) n=(wit (atP x es.length) (itR Ms (eG Ms es) n).1,(itR Ms (eG Ms es) n).2)
 |0,_,_=>by
  show (eG Ms (es++[x]),[])=_;rw[E1];rfl
 |n+1,H,L=>by
  have q:=H n (by omega);show ((fY Ms (itR Ms (eG Ms (es++[x])) n).1).1,(itR Ms (eG Ms (es++[x])) n).2++(fY Ms (itR Ms (eG Ms (es++[x])) n).1).2)=_;rw[KS mo (fun j Z=>H j (by omega)) (fun j Z=>L j (by omega))];dsimp only;rw[Iv mo q.1 (iA q.2).2.1 (L n (by omega)) (fun e Y=>?_) rfl]
  ·rfl
  ·by_cases c:e.fr=-1
   ·have:=Mh (zJ mo (fun j Z=>H j (by omega)) e Y c);refine nC (.inr ?_);show (es.length:Int)≠e.c;omega
   ·exact nC (.inl fun z=>c z.symm)
theorem KU{r:RS}(k:ROk Ms.length r){y:Ev}(Y:wV Ms.length y)(W:y.fr=-1)(un:∀e∈r.pd,y.key≠e.key):ROk Ms.length (wit y r):=by
 refine{k.len,lA k.fall un,fun e Z=>?_,fun e Z=>?_}
 ·rcases ar.mp ((ia y _).mem_iff.mp Z) with z|z
  ·rw[z];exact Y
  ·exact k.ev e z
 ·rcases ar.mp ((ia y _).mem_iff.mp Z) with z|z
  ·rw[z];exact .inl W
  ·exact k.cn e z
theorem OB(mo:uv Ms){n:Nat}{r:RS}(m:Mrk Ms es n r):∀e∈r.pd,(atP x es.length).key≠e.key:=fun e Z=>by
 rw[m.e]at Z
 by_cases c:e.fr=-1
 ·have:=Mh (zJ mo m.d e Z c);refine nC (.inr ?_);show (es.length:Int)≠e.c;omega
 ·exact nC (.inl fun z=>c z.symm)
end
def Wp(p:aa)(H:Hp):Hp:=fun a=>if a=p then none else H a
theorem jH{p a:aa}{H:Hp}{o:HO}(h:H a=some o)(n:a≠p):Wp p H a=some o:=by
 unfold Wp;rw[if_neg n];exact h
theorem oI{p a:aa}{H:Hp}{o:HO}(h:Wp p H a=some o):a≠p/\H a=some o:=by
 unfold Wp at h
 by_cases c:a=p
 ·rw[if_pos c]at h
  cases h
 ·rw[if_neg c]at h;exact⟨c,h⟩
theorem But.wp{p:aa}{H H':Hp}(b:But p H H'):aV (Wp p H) (Wp p H'):=fun a o e=>by
 obtain⟨n,h⟩:=oI e;exact jH (b _ _ h n) n
theorem DI(p:aa)(H:Hp):aV (Wp p H) H:=fun a o e=>(oI e).2
theorem tI{p:aa}{G F:Hp}(s:aV G F):aV (Wp p G) (Wp p F):=fun a o e=>jH (s _ _ (oI e).2) (oI e).1
structure Rn(CM:aa)(Ms:List MD)(es:List Ev)(H:Hp)(m sgl:aa):Prop where
 mo:vi CM Ms H m
 lm:Ms.length<1000
 sg:∃svs,H sgl=some (.lst svs)/\aP (tj H) svs es
 le:es.length<64
 ev:∀e∈es,wV Ms.length e
theorem Rn.same{CM:aa}{Ms:List MD}{es:List Ev}{H G:Hp}{m Z:aa}(s:aV H G)(h:Rn CM Ms es H m Z):Rn CM Ms es G m Z:=by
 obtain⟨Y,h1,h2⟩:=h.sg;exact{h.mo.same s,h.lm,{Y,s _ _ h1,Paired.mono (fun _ _ z=>z.same s) h2},h.le,h.ev}
def jI(m s e k:V):List (Str×V):=[("model",m),("signs",s),("every",e),("kept",k)]
structure KeT(K:ae)(mg:Str->Option af)(CK:aa):Prop where
 cl:Cls K CK
 nM:eI K CK "model"
 nS:eI K CK "signs"
 nE:eI K CK "every"
 nK:eI K CK "kept"
 m:mg "Keeper"=some (.ref CK)
theorem ke_m(m s e k:V):(jI m s e k).lookup ("model":Str)=some m:=rfl
theorem ke_s(m s e k:V):(jI m s e k).lookup ("signs":Str)=some s:=rfl
theorem ke_e(m s e k:V):(jI m s e k).lookup ("every":Str)=some e:=rfl
theorem Iw(m s e k:V):(jI m s e k).lookup ("kept":Str)=some k:=rfl
theorem Iy(m s e k:V):(jI m s e k).length<1000:=by show 4<1000;decide
theorem DJ(m s e k Z:V):cH "kept" Z (jI m s e k)=jI m s e Z:=rfl
theorem uV(m s e k:V){x:Str}(hx:(["model","signs","every","kept"]:List Str).contains x=false):(jI m s e k).lookup x=none:=by
 have z:∀k∈(["model","signs","every","kept"]:List Str),(x==k)=false:=fun k hk=>beq_eq_false_iff_ne.mpr fun e=>by
  rw[e,kA.mpr hk]at hx
  cases hx
 unfold jI;rw[dR (z _ (by simp)),dR (z _ (by simp)),dR (z _ (by simp)),dR (z _ (by simp))];rfl
structure Kpt(CC CS m:aa)(Ms:List MD)(es:List Ev)(F:Hp)(kvs:List (Key×V)):Prop where
 at_:∀q∈kvs,∃(n:Nat) (c:aa) (r:RS),q=(Sum.inl (n:Int),V.ref c)/\CoK CC CS m F c r/\Rst Ms r/\Mrk Ms es n r/\r.pd.length<=900000
 nd:(kvs.map (·.1)).Nodup
 few:kvs.length<=50
theorem Kpt.same{CC CS m:aa}{Ms:List MD}{es:List Ev}{F G:Hp}{kvs:List (Key×V)}(s:aV F G)(h:Kpt CC CS m Ms es F kvs):Kpt CC CS m Ms es G kvs:=⟨fun q hq=>by
 obtain⟨n,c,r,e,h1,h2⟩:=h.at_ q hq;exact{n,c,r,e,h1.same s,h2},h.nd,h.few⟩
def iR(kvs:List (Key×V)):List Int:=kvs.map fun q=>match q.1 with
 |.inl n=>n
 |.inr _=>0
theorem Kpt.keys{CC CS m:aa}{Ms:List MD}{es:List Ev}{F:Hp}{kvs:List (Key×V)}(h:Kpt CC CS m Ms es F kvs):kvs.map (·.1)=(iR kvs).map Sum.inl:=by
 unfold iR;rw[dI];refine gC fun q hq=>?_;obtain⟨n,c,r,e,_⟩:=h.at_ q hq;rw[e];rfl
theorem KW{kvs:List (Key×V)}{k:Key}{v:V}(h:jL kvs k=some v):(k,v)∈kvs:=by
 unfold jL at h;obtain⟨p,hp,rfl⟩:=iq.mp h;have h1:=List.mem_of_find?_eq_some hp;have h2:=List.find?_some hp;have:p.1=k:=by simpa using h2
 rw[<- this];exact h1
structure E2(CK CC CM CS:aa)(Ms:List MD)(es:List Ev)(F:Hp)(k m sl kd:aa)(ev:Int)(kvs:List (Key×V)):Prop where
 ob:∃dx,F k=some (.ins CK dx (jI (.ref m) (.ref sl) (.int ev) (.ref kd)))
 rn:Rn CM Ms es F m sl
 dk:F kd=some (.dK kvs)
 kk:Kpt CC CS m Ms es F kvs
section
variable{P:aN}{w:bL}{K:ae}{mg:Str->Option af}{base:cz}{f fCp fCf fR CK CC CM CS CN:aa}{fd fdCp fdCf fdR:bR}
seal PS PSs PE PA PT PW PI PG PGs PC
abbrev nKm:List Str:=["self"]
abbrev pKm:List Str:=["self"]
theorem scKm:bM nKm pKm (aM hU):={}
inductive Mj(CK:aa)(vs:List V)(H:Hp)(Q:VK)(_e:XK):Prop where
 |mk(k kd dx:aa)(m s e:V)(kvs:List (Key×V))(ns:List Int)(_:vs=[.ref k])(_:H k=some (.ins CK dx (jI m s e (.ref kd))))(_:H kd=some (.dK kvs))(_:kvs.map (·.1)=ns.map Sum.inl)(_:ns.length<64)(_:∀(l:aa) (ns':List Int),H l=none->ns'.Perm ns->ns'.Pairwise (·<=·)->Q (.ref l) (upd H l (.lst (ns'.map V.int)))):Mj CK vs H Q _e
def OC(CK:aa):Sp:=fun vs H Q Z=>Mj CK vs H Q Z
theorem Ml(F:Fun K "marks" "Keeper.marks" hU f fd)(T:KeT K mg CK)(Y:mg "sorted"=none):bA P w K mg base CX0 1 f fd pKm (OC CK):=by
 refine F.ok scKm (fun vs H Q E h=>?_) (fun W A outer s H vs Q E hr h=>?_)
 ·obtain⟨k,kd,dx,m,s',e,kvs,ns,rfl,_⟩:=h;rfl
 obtain⟨k,kd,dx,m,s',e,kvs,ns,rfl,h1,h2,V,Z,q⟩:=h;refine{_,ay (bN (cS (zH rfl) (by rfl) Y PyProof.Rows.boot_sorted (au (eg K (by rfl) (pv 0) (by rfl)) aj))),?_};exact eS {_,rfl,k,CK,dx,_,_,rfl,h1,T.cl,T.nK,Iw _ _ _ _,kd,ns,kvs,rfl,h2,V,Z,q}
abbrev nKc:List Str:=["self","number"]
abbrev pKc:List Str:=["self","number"]
theorem scKc:bM nKc pKc (aM eW):={}
inductive Mo(CK CC CM CS CN:aa)(vs:List V)(H:Hp)(Q:VK)(E:XK):Prop where
 |mk(Ms:List MD)(es:List Ev)(k m sl kd:aa)(ev n:Int)(kvs:List (Key×V))(_:vs=[.ref k,.int n])(_:E2 CK CC CM CS Ms es H k m sl kd ev kvs)(_:(n∉iR kvs->E (.ref CN) none H))(_:∀(G:Hp) (c' sl' pl':aa) (nn:Nat) (r:RS),n∈iR kvs->n=nn->Mrk Ms es nn r->r.pd.length<=900000->iL CC CS Ms H ⟨[c',sl',pl'],H⟩ G c' m sl' pl' r->Q (.ref c') G):Mo CK CC CM CS CN vs H Q E
def OD(CK CC CM CS CN:aa):Sp:=fun vs H Q E=>Mo CK CC CM CS CN vs H Q E
theorem Iz(F:Fun K "course_from" "Keeper.course_from" eW f fd)(Z:Mt K CC "copy" "Course.copy" gR pCc fCp fdCp)(W:bA P w K mg base CX0 4 fCp fdCp pCc (Iu CC CS))(T:KeT K mg CK)(g:CoT K mg CC)(mN:mg "NoMark"=some (.ref CN))(xN:cP K CN oV "ValueError.__new__"=true):bA P w K mg base (CXo P w) 5 f fd pKc (OD CK CC CM CS CN):=by
 refine F.okX scKc (fun vs H Q E h=>?_) (fun M A outer s H vs Q E hr h=>?_)
 ·obtain⟨Ms,es,k,m,sl,kd,ev,n,kvs,rfl,_⟩:=h;rfl
 obtain⟨Ms,es,k,m,sl,kd,ev,n,kvs,rfl,hk,no,q⟩:=h;have Y:=lN hr;have r4:cQ 4 _:=hr;refine⟨_,ai (cK (oK (Eu Y (pv 1) (eg K (by rfl) (pv 0) (by rfl)))) (ay (jB dP rfl rfl mN xN ((dB cb aj)))) bS)
  (ay (bN (jh (q8 Y (eg K (by rfl) (pv 0) (by rfl)) (pv 1) (fun _ _=>rfl)) g.cl Z.m W r4 Z.b .nil bC))),?_⟩
 have big:=dW;obtain⟨dx,ob⟩:=hk.ob;have dg:pU H kd (.int n) (jL kvs (Sum.inl n)):=pU.k (k:=Sum.inl n) hk.dk;refine cg (fZ {_,rfl,_,rfl,k,CK,dx,_,_,rfl,ob,T.cl,T.nK,Iw _ _ _ _,kd,_,rfl,dg,_,rfl,?_});have key:=hk.kk.keys
 cases e:jL kvs (Sum.inl n) with
 |none=>
  refine iH {BZ,no fun z=>?_};refine FW e ?_;rw[key];exact jk z
 |some v=>
  refine gb ?_;dsimp only[j6];have mem:=KW e;have nm:n∈iR kvs:=by
   have:=jk (f:=(·.1)) mem;rw[key]at this;obtain⟨x,hx,J⟩:=cB.mp this
   cases J;exact hx
  obtain⟨nn,c,r,eq,h1,h2,h3,t⟩:=hk.kk.at_ _ mem
  cases eq;rw[e]at dg;obtain⟨V,D,I,rv,sv,ss,ps,g1,_⟩:=id h1;refine eS {_,rfl,k,CK,dx,_,_,rfl,ob,T.cl,T.nK,Iw _ _ _ _,_,rfl,kd,_,rfl,dg,c,V,_,rfl,g1,w5 _ _ _ _ _ (by decide +kernel),Ms,c,m,r,rfl,h1,h2,hk.rn.lm,by omega,fun G c' U O C=>q G c' U O nn r nm rfl h3 t C}
abbrev nKg:List Str:=["self","number","most"]
abbrev pKg:List Str:=["self","number","most"]
theorem scKg:bM nKg pKg (aM hV):={}
inductive Mp(CK CC CM CS CN:aa)(vs:List V)(H:Hp)(Q:VK)(E:XK):Prop where
 |mk(Ms:List MD)(es:List Ev)(k m sl kd:aa)(ev n most:Int)(kvs:List (Key×V))(_:vs=[.ref k,.int n,.int most])(_:E2 CK CC CM CS Ms es H k m sl kd ev kvs)(_:most<=1000)(_:(n∉iR kvs->E (.ref CN) none H))(_:∀(G:Hp) (t rl:aa) (en:V) (rvs:List V) (nn i:Nat) (r:RS) (e:End),n∈iR kvs->n=nn->Mrk Ms es nn r->kT Ms r most i e->aV H G->G t=some (.tup [.ref rl,en])->G rl=some (.lst rvs)->H rl=none->aP (RcIn G) rvs (itR Ms r i).2->nF G en e->Q (.ref t) G):Mp CK CC CM CS CN vs H Q E
def OE(CK CC CM CS CN:aa):Sp:=fun vs H Q E=>Mp CK CC CM CS CN vs H Q E
theorem Mq(F:Fun K "go_on" "Keeper.go_on" hV f fd)(Y:Mt K CK "course_from" "Keeper.course_from" eW pKc fCf fdCf)(M:bA P w K mg base (CXo P w) 5 fCf fdCf pKc (OD CK CC CM CS CN))(D:Df K mg "run_on" lS ["course","most"] fR fdR)(GR:bA P w K mg base CX0 39 fR fdR ["course","most"] (AN CC CM CS))(T:KeT K mg CK):bA P w K mg base (CXo P w) 40 f fd pKg (OE CK CC CM CS CN):=by
 refine F.okX scKg (fun vs H Q E h=>?_) (fun bG A outer s H vs Q E hr h=>?_)
 ·obtain⟨Ms,es,k,m,sl,kd,ev,n,Z,kvs,rfl,_⟩:=h;rfl
 obtain⟨Ms,es,k,m,sl,kd,ev,n,Z,kvs,rfl,hk,hm,no,q⟩:=h;have r5:cQ 5 _:=hr.mono (by decide);have U:cQ 39 _:=hr;refine{_,ay (bN (aL GR U (by rfl) D.m D.F.kp D.b .nil bC (jc (gf (pv 0) T.cl Y.m M r5 Y.b .nil (dP.passes fun _ _ _ z=>z) (bE (pv 1) aj)) (bE (pv 2) aj)))),?_};obtain⟨dx,ob⟩:=hk.ob;refine eS {_,rfl,k,dx,_,rfl,ob,uV _ _ _ _ (by decide +kernel),_,rfl,Ms,es,k,m,sl,kd,ev,n,kvs,rfl,hk,no,fun G g W V nn r nm en hM lp C=>?_};refine{_,rfl,Ms,H,_,g,m,W,V,r,Z,rfl,hk.rn.mo,C,hm,by omega,fun G2 t i e R=>?_};obtain⟨rl,env,J,g1,O,_,g3,g4⟩:=R.rs;have sH:aV H G2:=fun a o e=>(R.cc.sm a o e).2.2.2;have I:H rl=none:=by
  cases z:H rl with
  |none=>rfl
  |some o=>
   refine absurd (.inr {o,z,fun xs y=>?_}:rl∈({[g,W,V],H}:Ex)) (fb O);have:=dD _ _ O;rw[sH _ _ z,y]at this
   cases this
 exact q G2 t rl env J nn i r e nm en hM R.st sH (dD _ _ g1) (dD _ _ O) I (Paired.mono (fun _ _ z=>z.same dD) g3) (g4.same dD)
end
theorem AW{kvs:List (Key×V)}{k:Key}{v:V}(h:k∉kvs.map (·.1)):ja kvs k v=kvs++[(k,v)]:=Ac v (by
 cases z:jL kvs k with
 |none=>rfl
 |some x=>exact absurd (Cr z) h)
def MoT(CM:aa)(Ms:List MD)(H:Hp)(m:aa):Prop:=∃(dx Z:aa) (fs:List (Str×V)),H m=some (.ins CM dx fs)/\fs.lookup ("machines":Str)=some (.ref Z)/\zv (Ms.length:Int) H Z Ms/\Tree H 29 (.ref Z)
theorem MoT.at{CM:aa}{Ms:List MD}{H:Hp}{m:aa}(h:MoT CM Ms H m):vi CM Ms H m:=by
 obtain⟨dx,Z,fs,h1,h2,Y,_⟩:=h;exact⟨dx,Z,fs,h1,h2,Y⟩
theorem Tree.mono{H G:Hp}(s:aV H G):∀{n:Nat} {v:V},Tree H n v->Tree G n v
 |0,_,h=>h
 |n+1,v,h=>by
  rcases h with h|⟨p,xs,e,h1,h2,Z⟩
  ·exact .inl h
  ·exact .inr {p,xs,e,h1.imp (s _ _) (s _ _),h2,fun x hx=>Tree.mono s (Z x hx)}
theorem MoT.same{CM:aa}{Ms:List MD}{H G:Hp}{m:aa}(s:aV H G)(h:MoT CM Ms H m):MoT CM Ms G m:=by
 obtain⟨dx,Y,fs,h1,h2,W,Z⟩:=h;exact{dx,Y,fs,s _ _ h1,h2,W.same s,Z.mono s}
theorem Alike.tree{H H':Hp}:∀{n:Nat} {v Z:V},Tree H n v->Alike H H' n v Z->Tree H' n Z
 |0,v,Z,h,a=>by
  rw[show Z=v from a];exact h
 |n+1,v,Z,h,a=>by
  rcases a with⟨h1,rfl⟩|⟨p,Y,xs,ys,rfl,rfl,h1,h2,r⟩|⟨p,Y,xs,ys,rfl,rfl,h1,h2,r⟩
  ·exact .inl h1
  all_goals
   rcases h with h|⟨q,zs,e,e1,U,e3⟩
   ·cases h
   ·cases e;have W:zs=xs:=by
     rcases e1 with e1|e1
     all_goals
      rw[h1]at e1
      cases e1
      try rfl
    subst W;refine .inr {Y,ys,rfl,?_,by rw[<- aZ r];exact U,fun y hy=>?_}
    ·first
      |exact .inl h2
      |exact .inr h2
    ·obtain⟨j,O⟩:=dH hy;obtain⟨x,hx,z⟩:=jT r O;exact Alike.tree (e3 x (cq hx)) z
theorem IA{m:Int}{H H2:Hp}{W:aa}{Ms:List MD}{Y:V}(h:zv m H W Ms)(t:Tree H 29 (.ref W))(U:Alike H H2 29 (.ref W) Y):∃Z,Y=.ref Z/\zv m H2 Z Ms/\Tree H2 29 (.ref Z):=by
 have t':=Alike.tree t U;obtain⟨xs,h0,p⟩:=h;obtain⟨Z,ys,rfl,h1,O⟩:=oo h0 U;refine⟨Z,rfl,⟨ys,h1,q9 (R:=MoI m H) (S:=Alike H H2 28) (T:=Tree H 28) (fun v M Y z b c=>?_) p O fun x hx=>?_⟩,t'⟩
 ·exact⟨z.ma.alike c b,z.fs.alike b,z.kb,z.nb,z.nq,z.lb,z.lq,z.ld,z.lh,z.wb,z.hk⟩
 ·rcases t with t|⟨q,zs,e,e1,J,e3⟩
  ·cases t
  ·cases e
   rcases e1 with e1|e1
   ·rw[h0]at e1
    cases e1;exact e3 x hx
   ·rw[h0]at e1
    cases e1
theorem iL.kx{CC CS:aa}{Ms:List MD}{Hb G:Hp}{c m sl pl:aa}{r:RS}{ex:Ex}(h:iL CC CS Ms Hb ⟨[c,sl,pl],Hb⟩ G c m sl pl r)(n:∀a∈ex,∃o,Hb a=some o/\∀xs,o≠.tup xs):CoK CC CS m (Hid ex G) c r:=by
 obtain⟨dx,I,sv,h1,h2,H⟩:=h.hc;obtain⟨U,V,J⟩:=h.hs;obtain⟨ps,M,O⟩:=h.hp;have s:aV (Hid ⟨[c,sl,pl],Hb⟩ G) (Hid ex G):=fun a o e=>by
  have Y:a∉ex:=fun z=>by
   obtain⟨o',Z,q⟩:=n a z;exact fb e (.inr ⟨o',Z,q⟩)
  rw[dS Y];exact dD _ _ e
 have v:∀{a:aa} {o:HO},a∉ex->G a=some o->Hid ex G a=some o:=fun Y e=>by
  rw[dS Y];exact e
 have W:c∉ex:=fun z=>by
  obtain⟨o',Z,_⟩:=n _ z;exact (h.sm _ _ Z).1 rfl
 have ns:sl∉ex:=fun z=>by
  obtain⟨o',Z,_⟩:=n _ z;exact (h.sm _ _ Z).2.1 rfl
 have np:pl∉ex:=fun z=>by
  obtain⟨o',Z,_⟩:=n _ z;exact (h.sm _ _ Z).2.2.1 rfl
 exact{dx,sl,pl,I,sv,U,ps,v W h1,h2.same s,H.same s,v ns V,Paired.mono (fun _ _ z=>jO.same' s z) J,v np M,Paired.mono (fun _ _ z=>z.same s) O}
def atL(num:Int)(q:Key×V):Bool:=match q.1 with
 |.inl n=>decide (num<=n)
 |.inr _=>true
theorem OF{CM:aa}{G H2 G':Hp}{m Z k:aa}{U:V}(O:Z≠m)(hk:G k≠none)(b:But k (upd H2 m (.ins CM Z (cH "machines" U []))) G'):aV (Nw (upd (upd G Z (.own m)) m (.ins CM Z [])) H2) (Hid {[],G} G'):=fun a o e=>by
 have n:(upd (upd G Z (.own m)) m (.ins CM Z [])) a=none:=by
  unfold Nw at e
  by_cases c:(upd (upd G Z (.own m)) m (.ins CM Z [])) a=none
  ·exact c
  ·rw[if_neg c]at e
   cases e
 have Y:a≠m:=fun z=>by
  rw[z,ag]at n
  cases n
 have W:a≠Z:=fun z=>by
  rw[z,aO O,ag]at n
  cases n
 have ga:G a=none:=by
  rw[aO Y,aO W]at n;exact n
 rw[dS (iJ ga)];exact b _ _ (by rw[aO Y];exact nw_le _ _ e) fun z=>hk (z ▸ ga)
theorem mo_h{CM:aa}{Ms:List MD}{G H2 G':Hp}{m Z Y k:aa}(nm:G m=none)(W:Z≠m)(hk:G k≠none)(mo:zv (Ms.length:Int) (Nw (upd (upd G Z (.own m)) m (.ins CM Z [])) H2) Y Ms)(t:Tree (Nw (upd (upd G Z (.own m)) m (.ins CM Z [])) H2) 29 (.ref Y))(b:But k (upd H2 m (.ins CM Z (cH "machines" (.ref Y) []))) G'):MoT CM Ms (Hid {[],G} G') m:=by
 have s:=OF W hk b;exact{Z,Y,_,by rw[dS (iJ nm)];exact b _ _ ag (fun z=>hk (z ▸ nm)),rfl,mo.same s,t.mono s}
section
variable{P:aN}{w:bL}{K:ae}{mg:Str->Option af}{base:cz}{f fMI fCa CK CC CM CS:aa}{fd fdMI fdCa:bR}
seal PS PSs PE PA PT PW PI PG PGs PC
abbrev nKt:List Str:=["self","number","left","mark","course"]
abbrev pKt:List Str:=["self","number"]
theorem KY:bM nKt pKt (aM jE):={}
inductive Mr(CK CC CS:aa)(vs:List V)(H:Hp)(Q:VK)(_e:XK):Prop where
 |mk(F:Hp)(Ms:List MD)(es:List Ev)(mo k kd dx:aa)(m s e:V)(num:Int)(kvs:List (Key×V))(_:vs=[.ref k,.int num])(_:H k=some (.ins CK dx (jI m s e (.ref kd))))(_:Wp k H kd=some (.dK kvs))(_:Kpt CC CS mo Ms es F kvs)(_:∀(G:Hp) (kd':aa) (kvs':List (Key×V)),But k H G->G k=some (.ins CK dx (jI m s e (.ref kd')))->G kd'=some (.dK kvs')->H kd'=none->kvs'=kvs.filter (atL num)->Kpt CC CS mo Ms es F kvs'->Q .non G):Mr CK CC CS vs H Q _e
def spKt(CK CC CS:aa):Sp:=fun vs H Q Z=>Mr CK CC CS vs H Q Z
theorem ok_kt(F:Fun K "cut" "Keeper.cut" jE f fd)(T:KeT K mg CK):bA P w K mg base CX0 1 f fd pKt (spKt CK CC CS):=by
 refine F.ok KY (fun vs H Q E h=>?_) (fun bG A outer s H vs Q E hr h=>?_)
 ·obtain⟨F,Ms,es,mo,k,kd,dx,m,s',e,num,kvs,rfl,_⟩:=h;rfl
 obtain⟨F,Ms,es,mo,k,kd,dx,m,s',e,num,kvs,rfl,h1,h2,U,q⟩:=h;have bW:=lN hr;refine⟨_,ai (bh (i:=2) KY.nd rfl (Or.inl rfl) qv)
  (ai (Cz (jo cO rfl (Au (eg K (by rfl) (pv 0) (by rfl))) (vT rfl (jg (dO (i:=3) KY.nd rfl (Or.inl rfl)) (jg (dO (i:=4) KY.nd rfl (Or.inl rfl)) sI))) (ay (cK (bO FB (pv 3) (pv 1) (bX _)) (ay (kW bW (pv 2) (pv 3) (pv 4) rfl)) bS))))
  (ay (eJ (pv 0) (pv 2) rfl))),?_⟩
 have big:=dW;obtain⟨bH,Z⟩:=oI h2;refine cg (cL fun d hd=>aY ?_);have s1:=aF hd (.dK []);dsimp only;have nf:∀(ob:Obj) (u:HO),H kd≠some (.frz ob u):=fun ob u z=>by
  rw[Z]at z
  cases z
 have bI:d≠k:=(av h1 hd).symm;have W:d≠kd:=(av Z hd).symm;refine cg {_,rfl,k,CK,dx,_,_,rfl,s1 _ _ h1,T.cl,T.nK,Iw _ _ _ _,kd,_,rfl,s1 _ _ Z,nf,fun od=>?_};refine yk (d:=kd) (od:=od) (kvs:=kvs) (fun i σ G=>∃(v3 v4:Option V) (ks:List (Key×V)),σ=[some (.ref k),some (.int num),some (.ref d),v3,v4]/\G kd=some (.frz od (.dK kvs))/\(∀b o,H b=some o->b≠kd->G b=some o)/\G d=some (.dK ks)/\ks=(kvs.take i).filter (atL num)) {_,_,[],rfl,ag,fun b o e n=>?_,?_,rfl} ?_ ?_ ?_
 ·rw[aO n];exact s1 _ _ e
 ·rw[aO W];exact ag
 ·rintro i σ G _ ⟨_,_,_,_,h,_⟩;exact h
 ·rintro i kv t σ G hi ⟨v3,v4,ks,rfl,g1,D,I,Y⟩ ht;have il:=(aG.mp hi).1;obtain⟨n,c,r,rfl,_⟩:=U.at_ kv (cq hi);have st:=aF ht (.tup [.int n,.ref c]);have tk:kvs.take (i+1)=kvs.take i++[(Sum.inl (n:Int),V.ref c)]:=by
   rw[eR,hi];rfl
  refine{t,_,rfl,SqT.of ag,rfl,_,_,rfl,aY {_,_,rfl,aY {rfl,?_}}};dsimp only;refine fZ {_,rfl,_,rfl,_,_,rfl,rfl,_,rfl,gi (fun c1=>?_) (fun c1=>?_)}
  ·have O:ks.Sublist (kvs.take i):=Y ▸ E3;have few:ks.length<aB:=by
    have:=O.length_le;rw[c9]at this;have:=U.few;omega
   have dp:=sQ.k (k:=Sum.inl (n:Int)) (v:=.ref c) (st _ _ I) few;have g:(Sum.inl (n:Int):Key)∉ks.map (·.1):=fun z=>by
    have M:((kvs.take (i+1)).map (·.1)).Nodup:=by
     rw[zZ];exact U.nd.sublist (nU _ _)
    rw[tk,bT]at M;exact (gX.mp M).2.2 _ ((O.map (·.1)).subset z) (Sum.inl (n:Int)) (by simp) rfl
   rw[AW g]at dp;refine{_,rfl,_,rfl,_,rfl,d,_,rfl,dp,{_,_,ks++[(Sum.inl (n:Int),V.ref c)],rfl,aS (st _ _ g1) W.symm,fun b o e nb=>?_,ag,?_}}
   ·exact aS (st _ _ (D _ _ e nb)) (av e hd)
   ·rw[tk,mY,<- Y,ie (show atL num (Sum.inl (n:Int),V.ref c)=true from c1)];rfl
  ·exact{_,_,ks,rfl,st _ _ g1,fun b o e nb=>st _ _ (D _ _ e nb),st _ _ I,by rw[tk,mY,<- Y,ig (show ¬atL num (Sum.inl (n:Int),V.ref c)=true from c1),KZ,cv]}
 ·rintro σ G ⟨v3,v4,ks,rfl,g1,D,I,Y⟩;rw[dZ]at Y;have O:ks.Sublist kvs:=Y ▸ E3;refine{kd,od,_,g1,nf,?_};have sH:aV H (upd G kd (.dK kvs)):=fun b o e=>by
   by_cases c:b=kd
   ·rw[c,ag];rw[c,Z]at e;exact e
   ·rw[aO c];exact D _ _ e c
  have J:upd G kd (.dK kvs) d=some (.dK ks):=aS I W;generalize upd G kd (.dK kvs)=G2 at sH J;dsimp only;refine{_,rfl,_,rfl,k,CK,dx,_,rfl,sH _ _ h1,T.cl,T.nK,Iy _ _ _ _,?_};rw[DJ];have bt:But k H (upd G2 k (.ins CK dx (jI m s' e (.ref d)))):=fun b o e nb=>aS (sH _ _ e) nb;exact q _ d ks bt ag (aS J bI) hd Y {fun x hx=>U.at_ x (O.subset hx),U.nd.sublist (O.map (·.1)),dA O.length_le U.few}
abbrev nKi:List Str:=["self","model","signs","every"]
abbrev pKi:List Str:=["self","model","signs","every"]
theorem scKi:bM nKi pKi (aM ny):={}
inductive Mu(CK CC CM CS:aa)(vs:List V)(H:Hp)(Q:VK)(_e:XK):Prop where
 |mk(Ms:List MD)(es:List Ev)(k dx m0 sg:aa)(ev:Int)(_:vs=[.ref k,.ref m0,.ref sg,.int ev])(_:H k=some (.ins CK dx []))(_:MoT CM Ms H m0)(_:Rn CM Ms es H m0 sg)(_:1<=ev)(_:ev<=100)(_:∀(G:Hp) (m sl kd co:aa),But k H G->G k=some (.ins CK dx (jI (.ref m) (.ref sl) (.int ev) (.ref kd)))->Rn CM Ms es (Hid ⟨[],H⟩ G) m sl->Hid ⟨[],H⟩ G kd=some (.dK [(Sum.inl 0,.ref co)])->Kpt CC CS m Ms es (Hid ⟨[],H⟩ G) [(Sum.inl 0,.ref co)]->Q .non G):Mu CK CC CM CS vs H Q _e
def OG(CK CC CM CS:aa):Sp:=fun vs H Q Z=>Mu CK CC CM CS vs H Q Z
theorem ok_ki(F:Fun K "__init__" "Keeper.__init__" ny f fd)(dv:Mk K CM fMI)(dL:bA P w K mg base CX0 31 fMI fdMI ["self","machines"] (NM CM 29))(dV:Binds K fdMI ["self","machines"] [])(I:Df K mg "course_at_first" fq ["model","signs"] fCa fdCa)(dG:bA P w K mg base CX0 4 fCa fdCa ["model","signs"] (Dq CC CM CS))(T:KeT K mg CK)(TM:MdT K mg CM CS)(B:Bl mg):bA P w K mg base CX0 33 f fd pKi (OG CK CC CM CS):=by
 refine F.ok scKi (fun vs H Q E h=>?_) (fun di A outer s H vs Q E hr h=>?_)
 ·obtain⟨Ms,es,k,dx,m0,sg,ev,rfl,_⟩:=h;rfl
 obtain⟨Ms,es,k,dx,m0,sg,ev,rfl,hk,hM,U,e1,e2,q⟩:=h;have de:=lN hr;have r4:cQ 4 _:=hr.mono (by decide);have eb:cQ 32 _:=hr;refine⟨_,ai (eJ (pv 0) (jW dv dL eb (by rfl) TM.mM dV .nil bC (au (eg K (by rfl) (pv 1) (by rfl)) aj)) rfl)
  (ai (eJ (pv 0) (hJ (AK K (by rfl)) (by rfl) B.list boot_list (bE (pv 2) aj)) rfl)
  (ai (eJ (pv 0) (cS (xX rfl) (by rfl) B.max boot_max (bE (pv 3) (dB aw aj))) rfl)
  (ay (eJ (pv 0) (Cq (Ah aw (aL dG r4 (by rfl) I.m I.F.kp I.b .nil bC (au (eg K (by rfl) (pv 0) (by rfl)) (au (eg K (by rfl) (pv 0) (by rfl)) aj))) Cp) rfl rfl (by simp) (by decide)) rfl)))),?_⟩
 have big:=dW;obtain⟨dz,ml,fs,g1,g2,g3,g4⟩:=hM;obtain⟨Y,g,ec⟩:=U.sg;refine cg (uo ?_);refine{_,rfl,m0,CM,dz,_,_,rfl,g1,TM.clM,TM.nM,g2,fun m W hm ei el=>?_};have sA:aV H (upd (upd H W (.own m)) m (.ins CM W [])):=fun b o e=>by
  rw[aO (av e hm),aO (av e ei)];exact e
 refine{m,W,.ref ml,rfl,ag,g4.mono sA,fun v' G5 s5 al=>{rfl,?_}};obtain⟨D,rfl,ee,ek⟩:=IA (g3.same sA) (g4.mono sA) al;have kn:H k≠none:=fun z=>by
  rw[hk]at z
  cases z
 have dt:m≠k:=(av hk hm).symm;have V:aV H (upd G5 m (.ins CM W (cH "machines" (.ref D) []))):=lY (sA.trans s5) hm _;have mo:∀{G:Hp},But k (upd G5 m (.ins CM W (cH "machines" (.ref D) []))) G->vi CM Ms (Hid {[],H} G) m:=fun b=>(mo_h hm el kn ee ek b).at;revert mo V;generalize upd G5 m (.ins CM W (cH "machines" (.ref D) []))=GM;intro V mo;clear ee ek al s5 sA ei el;refine{_,rfl,k,CK,dx,_,rfl,V _ _ hk,T.cl,T.nM,(by show 0<1000;decide),?_};have b1:But k GM (upd GM k (.ins CK dx (cH "model" (.ref m) []))):=But.upd k GM _;have ed:sg≠k:=fun z=>by
  rw[z,hk]at g
  cases g
 refine cg {_,rfl,sg,Y,rfl,.inl (SqL.of (b1 _ _ (V _ _ g) ed)),fun sl Z=>{_,rfl,k,CK,dx,_,rfl,(aF Z (.lst Y)) _ _ ag,T.cl,T.nS,(by show 1<1000;decide),?_}};have ea:H sl=none:=by
  cases z:H sl with
  |none=>rfl
  |some o=>
   have y:=V _ _ z
   by_cases c:sl=k
   ·rw[c,ag]at Z
    cases Z
   ·rw[aO c,y]at Z
    cases Z
 have M:sl≠k:=(av (ag:upd GM k (.ins CK dx (cH "model" (.ref m) [])) k=_) Z).symm;refine cg {_,rfl,ev,1,rfl,_,rfl,k,CK,dx,_,rfl,ag,T.cl,T.nE,(by show 2<1000;decide),?_};rw[if_neg (by omega:¬(1:Int)>ev)];have qk:upd (upd (upd (upd GM k (.ins CK dx (cH "model" (.ref m) []))) sl (.lst Y)) k (.ins CK dx (cH "signs" (.ref sl) (cH "model" (.ref m) [])))) k (.ins CK dx (cH "every" (.int ev) (cH "signs" (.ref sl) (cH "model" (.ref m) [])))) k=some (.ins CK dx [("model",.ref m),("signs",.ref sl),("every",.int ev)]):=ag;have J:But k GM (upd (upd (upd (upd GM k (.ins CK dx (cH "model" (.ref m) []))) sl (.lst Y)) k (.ins CK dx (cH "signs" (.ref sl) (cH "model" (.ref m) [])))) k (.ins CK dx (cH "every" (.int ev) (cH "signs" (.ref sl) (cH "model" (.ref m) []))))):=(((b1.same (aF Z _)).trans (But.upd k _ _)).trans (But.upd k _ _));have qs:upd (upd (upd (upd GM k (.ins CK dx (cH "model" (.ref m) []))) sl (.lst Y)) k (.ins CK dx (cH "signs" (.ref sl) (cH "model" (.ref m) [])))) k (.ins CK dx (cH "every" (.int ev) (cH "signs" (.ref sl) (cH "model" (.ref m) [])))) sl=some (.lst Y):=aS (aS ag M) M;revert qk J qs;generalize upd (upd (upd (upd GM k (.ins CK dx (cH "model" (.ref m) []))) sl (.lst Y)) k (.ins CK dx (cH "signs" (.ref sl) (cH "model" (.ref m) [])))) k (.ins CK dx (cH "every" (.int ev) (cH "signs" (.ref sl) (cH "model" (.ref m) []))))=G4;intro qk J qs;clear b1 Z;have rn:∀{G:Hp},But k G4 G->Rn CM Ms es (Hid {[],H} G) m sl:=fun b=>⟨mo (J.trans b),U.lm,⟨Y,by rw[dS (iJ ea)];exact b _ _ qs M,Paired.mono (fun v e ⟨t,e',h⟩=>by
  have nt:t≠k:=fun z=>by
   rw[z,hk]at h
   cases h
  refine{t,e',?_};rw[dS fun z=>?_]
  ·exact b _ _ (J _ _ (V _ _ h) nt) nt
  ·rcases z with z|⟨o,z,y⟩
   ·cases z
   ·have z:H t=some o:=z;rw[h]at z
    cases z;exact y _ rfl) ec⟩,U.le,U.ev⟩
 refine fun d hd=>?_;have O:=aF hd (.dK []);have R5:=(rn (But.same (But.refl k G4) O)).same dD;obtain⟨ef,ej,em⟩:=R5.sg;refine{_,rfl,k,CK,dx,_,_,rfl,O _ _ qk,T.cl,T.nM,rfl,_,rfl,k,CK,dx,_,_,rfl,O _ _ qk,T.cl,T.nS,rfl,Ms,m,sl,ef,es,rfl,R5.mo,U.lm,ej,em,U.le,U.ev,fun G6 co dn dj C=>?_};have s6:aV (upd G4 d (.dK [])) G6:=fun a o e=>(C.sm a o e).2.2.2;refine{s6 _ _ ag,[(Sum.inl 0,.ref co)],rfl,(by show 1<=15;decide),?_};have eh:k≠d:=av qk hd;refine{_,rfl,k,CK,dx,_,rfl,aS ((O.trans s6) _ _ qk) eh,T.cl,T.nK,(by show 3<1000;decide),?_};have b7:But k G4 (upd (upd G6 d (.dK (kO [] [(Sum.inl 0,.ref co)]))) k (.ins CK dx (jI (.ref m) (.ref sl) (.int ev) (.ref d)))):=fun b o e nb=>aS (aS ((O.trans s6) _ _ e) (av e hd)) nb;have nH:∀{a:aa},G4 a=none->H a=none:=fun {a} z=>by
  cases y:H a with
  |none=>rfl
  |some o=>
   by_cases c:a=k
   ·rw[c,qk]at z
    cases z
   ·rw[J _ _ (V _ _ y) c]at z
    cases z
 have K7:CoK CC CS m (Hid {[k,d],H} (upd (upd G6 d (.dK (kO [] [(Sum.inl 0,.ref co)]))) k (.ins CK dx (jI (.ref m) (.ref sl) (.int ev) (.ref d))))) co (eG Ms es):=by
  rw[gz (.inl (by simp)),gz (.inl (by simp))];refine C.kx fun a ha=>?_
  rcases ha with ha|⟨o,e,nt⟩
  ·have ha:a∈[k,d]:=ha;simp only[ar,aK,or_false]at ha
   rcases ha with rfl|rfl
   ·exact{_,O _ _ qk,fun xs z=>by cases z}
   ·exact{_,ag,fun xs z=>by cases z}
  ·by_cases c:a=k
   ·rw[c];exact{_,O _ _ qk,fun xs z=>by cases z}
   ·exact{o,O _ _ (J _ _ (V _ _ e) c),nt}
 have sh:∀{F:Hp},aV (Hid {[k,d],H} F) (Hid {[],H} F):=fun {F} a o e=>by
  have n:a∉({[],H}:Ex):=fun z=>fb e (z.elim (fun y=>absurd y aK) .inr);rw[dS n];exact dD _ _ e
 refine q _ m sl d co (fun b o e nb=>b7 _ _ (J _ _ (V _ _ e) nb) nb) ag (rn b7) ?_ {fun x hx=>?_,cG.mpr {(fun z=>by cases z),ic},by show 1<=50;decide}
 ·rw[dS (iJ (nH hd))];exact aS ag eh.symm
 ·rw[aE.mp hx];refine{0,co,eG Ms es,rfl,K7.same sh,C.rst,Mg Ms es,?_};show (kZ (oH es) []).length<=900000;rw[(d8 _ _).length_eq,cv,l8];have:=U.le;omega
end
theorem IB{Z Y:Type}{F:Z->Y->Prop}{xs zs:List Z}{ys us:List Y}(h:aP F xs ys)(z:aP F zs us):aP F (xs++zs) (ys++us):=by
 induction h with
 |nil=>exact z
 |cons x _ W=>exact .cons x W
theorem E4:eQ "min"=some (.builtin "min"):=by decide +kernel
theorem DK{Ms:List MD}{r:RS}(mo:uv Ms){Z:Int}:∀{i:Nat},(∀j,j<i->ROk Ms.length (itR Ms r j).1/\gT (itR Ms r j).1 (Z-(itR Ms r j).2.length)=none)->(itR Ms r i).1.pd.length<=r.pd.length+5000*(itR Ms r i).2.length
 |0,_=>wO _ _
 |i+1,h=>by
  have a:=DK mo (i:=i) fun j Y=>h j (by omega);have q:=h i (by omega);have b:=(tF (mZ mo q.1 (iA q.2).2.1)).1;show (fY Ms (itR Ms r i).1).1.pd.length<=r.pd.length+5000*((itR Ms r i).2++(fY Ms (itR Ms r i).1).2).length;rw[aA];omega
theorem IC{r:RS}{k Z:Int}{e:End}(h:gT r k=some e)(c:e≠.cut\/Z<=0):∃Y,gT r Z=some Y:=by
 unfold gT at h |-
 split at h
 ·exact{_,rfl}
 ·split at h
  ·rename_i y
   rw[if_pos y];exact{_,rfl}
  ·rename_i y
   rw[if_neg y]
   split at h
   ·cases h
    rcases c with c|c
    ·exact absurd rfl c
    ·rw[if_pos c];exact{_,rfl}
   ·cases h
theorem K2{r:RS}{k:Int}(h:gT r k=some .cut):k<=0:=by
 unfold gT at h
 split at h
 ·cases h
 ·split at h
  ·cases h
  ·split at h
   ·assumption
   ·cases h
abbrev kx(H:Hp)(k co s p d rl:aa):Ex:={[k,co,s,p,d,rl],H}
theorem Mv{H:Hp}{k co s p d rl a:aa}(h:a∈kx H k co s p d rl):(a=k\/a=co\/a=s\/a=p\/a=d\/a=rl)\/∃o,H a=some o/\∀xs,o≠.tup xs:=by
 rcases h with h|h
 ·have h:a∈[k,co,s,p,d,rl]:=h;exact .inl (by simpa using h)
 ·exact .inr h
def pQ(q:Nat)(ev:Int):List Key:=(gx (q+1)).map fun j=>Sum.inl ((j*ev.toNat:Nat):Int)
theorem ID{q:Nat}{ev:Int}:pQ (q+1) ev=pQ q ev++[Sum.inl (((q+1)*ev.toNat:Nat):Int)]:=by
 unfold pQ;rw[K3,bT];rfl
theorem Mrk.stops{Ms:List MD}{es:List Ev}{n i:Nat}{r:RS}{k Z:Int}{e Y:End}(m:Mrk Ms es n r)(s:kT Ms r k i e)(l:k<=Z-n)(d:gT (itR Ms r i).1 (Z-(n+(itR Ms r i).2.length:Nat))=some Y)(hm:(n:Int)<Z):kT Ms (eG Ms es) Z (n+i) Y/\(itR Ms (eG Ms es) (n+i)).2=(itR Ms (eG Ms es) n).2++(itR Ms r i).2:=by
 have W:=m.e;subst W;have add:=rq Ms (eG Ms es) n;have len:∀d,(itR Ms (eG Ms es) (n+d)).2.length=n+(itR Ms (itR Ms (eG Ms es) n).1 d).2.length:=fun d=>by
  rw[add d];show ((itR Ms (eG Ms es) n).2++_).length=_;rw[aA,m.l n (aD _)]
 refine{{fun j V=>?_,?_,?_},by rw[add i]}
 ·by_cases c:j<n
  ·have q:=m.d j c;refine{q.1,xl q.2 ?_};rw[m.l j (by omega)];omega
  ·obtain⟨d,rfl⟩:∃d,j=n+d:={j-n,by omega};have q:=s.1 d (by omega);rw[len d,add d];exact{q.1,xl q.2 (by omega)}
 ·rw[len i,add i];exact d
 ·rw[add i];exact s.2.2
structure Kfx(H:Hp)(k co s p d rl:aa)(ex:Ex):Prop where
 ik:k∈ex
 id:d∈ex
 ir:rl∈ex
 nd:Wp k H d=none
 nr:Wp k H rl=none
 k1:co≠k
 k2:s≠k
 k3:p≠k
 d1:co≠d
 d2:s≠d
 d3:p≠d
 r1:co≠rl
 r2:s≠rl
 r3:p≠rl
 kd:k≠d
 kr:k≠rl
 dr:d≠rl
structure Krn(CK CC CS:aa)(Ms:List MD)(es:List Ev)(H:Hp)(k dx m sg co s p d rl:aa)(ev most:Int)(ex:Ex)(G:Hp)(r:RS)(rvs:List V)(kvs:List (Key×V)):Prop where
 c:iL CC CS Ms (Wp k H) ex G co m s p r
 qk:G k=some (.ins CK dx (jI (.ref m) (.ref sg) (.int ev) (.ref d)))
 qd:G d=some (.dK kvs)
 qr:G rl=some (.lst rvs)
 kp:Kpt CC CS m Ms es (Hid (kx H k co s p d rl) G) kvs
 ku:∀q∈kvs,∀x:Int,q.1=Sum.inl x->x<=rvs.length
 kl:kvs.length<=rvs.length+1
 pd:r.pd.length<=64+5000*rvs.length
 le:(rvs.length:Int)<=most
theorem Krn.same{CK CC CS:aa}{Ms:List MD}{es:List Ev}{H:Hp}{k dx m sg co s p d rl:aa}{ev Z:Int}{ex:Ex}{G G':Hp}{r:RS}{Y:List V}{kvs:List (Key×V)}(s':aV G G')(h:Krn CK CC CS Ms es H k dx m sg co s p d rl ev Z ex G r Y kvs):Krn CK CC CS Ms es H k dx m sg co s p d rl ev Z ex G' r Y kvs:=
 {h.c.same s',s' _ _ h.qk,s' _ _ h.qd,s' _ _ h.qr,h.kp.same (gv s'),h.ku,h.kl,h.pd,h.le}
theorem Krn.kx{CK CC CS:aa}{Ms:List MD}{es:List Ev}{H:Hp}{k dx m sg co s p d rl:aa}{ev Z:Int}{ex:Ex}{G:Hp}{r:RS}{Y:List V}{kvs:List (Key×V)}(h:Krn CK CC CS Ms es H k dx m sg co s p d rl ev Z ex G r Y kvs):∀a∈My.kx H k co s p d rl,∃o,G a=some o/\∀xs,o≠.tup xs:=fun a ha=>by
 obtain⟨_,_,_,h1,_⟩:=h.c.hc;obtain⟨_,h2,_⟩:=h.c.hs;obtain⟨_,W,_⟩:=h.c.hp
 rcases Mv ha with (rfl|rfl|rfl|rfl|rfl|rfl)|⟨o,e,nt⟩
 ·exact{_,h.qk,fun xs z=>by cases z}
 ·exact{_,h1,fun xs z=>by cases z}
 ·exact{_,h2,fun xs z=>by cases z}
 ·exact{_,W,fun xs z=>by cases z}
 ·exact{_,h.qd,fun xs z=>by cases z}
 ·exact{_,h.qr,fun xs z=>by cases z}
 ·by_cases c:a=k
  ·rw[c];exact{_,h.qk,fun xs z=>by cases z}
  ·exact{o,(h.c.sm a o (jH e c)).2.2.2,nt}
section
variable{P:aN}{w:bL}{K:ae}{mg:Str->Option af}{base:cz}{f fCa fCp fE fR fBk CK CC CM CS CB:aa}{fd fdCa fdCp fdE fdR fdBk:bR}
seal PS PSs PE PA PT PW PI PG PGs PC
abbrev nKr:List Str:=["self","most","course","records","ending","told"]
abbrev pKr:List Str:=["self","most"]
theorem E5:bM nKr pKr (aM jD):={}
inductive Mw(CK CC CM CS CB:aa)(vs:List V)(H:Hp)(Q:VK)(_e:XK):Prop where
 |mk(Ms:List MD)(es:List Ev)(k dx m sg:aa)(v:V)(ev most:Int)(_:vs=[.ref k,.int most])(_:H k=some (.ins CK dx (jI (.ref m) (.ref sg) (.int ev) v)))(_:Rn CM Ms es (Wp k H) m sg)(_:1<=ev)(_:ev<=100)(_:0<=most)(_:most<=40)(_:∀(G:Hp) (b dxb rl kd:aa) (en sv:V) (rvs:List V) (kvs:List (Key×V)) (i:Nat) (e:End),kT Ms (eG Ms es) most i e->Hid ⟨[],H⟩ G rl=some (.lst rvs)->aP (RcIn (Hid ⟨[],H⟩ G)) rvs (itR Ms (eG Ms es) i).2->nF (Hid ⟨[],H⟩ G) en e->kvs.map (·.1)=pQ (rvs.length/ev.toNat) ev->But k H G->G b=some (.ins CB dxb (HM (.ref rl) en sv))->G rl=some (.lst rvs)->rvs.length<=100->G k=some (.ins CK dx (jI (.ref m) (.ref sg) (.int ev) (.ref kd)))->Hid ⟨[],H⟩ G kd=some (.dK kvs)->Kpt CC CS m Ms es (Hid ⟨[],H⟩ G) kvs->Q (.ref b) G):Mw CK CC CM CS CB vs H Q _e
def spKr(CK CC CM CS CB:aa):Sp:=fun vs H Q Z=>Mw CK CC CM CS CB vs H Q Z
theorem ok_kr(F:Fun K "run" "Keeper.run" jD f fd)(nc:Df K mg "course_at_first" fq ["model","signs"] fCa fdCa)(kc:bA P w K mg base CX0 4 fCa fdCa ["model","signs"] (Dq CC CM CS))(ow:Mt K CC "copy" "Course.copy" gR pCc fCp fdCp)(lj:bA P w K mg base CX0 4 fCp fdCp pCc (Iu CC CS))(ME:Mt K CC "ending_due" "Course.ending_due" fH ["self","left"] fE fdE)(GE:bA P w K mg base CX0 1 fE fdE ["self","left"] (Of CC CS))
  (DR:Df K mg "run_on" lS ["course","most"] fR fdR) (GR:bA P w K mg base CX0 39 fR fdR ["course","most"] (AN CC CM CS)) (MB:Mk K CB fBk) (bB:Binds K fdBk ["self","records","ending","states"] []) (GB:bA P w K mg base CX0 1 fBk fdBk ["self","records","ending","states"] (N9 CB)) (T:KeT K mg CK) (TC:CoT K mg CC) (TB:BkT K mg CB) (B:Bl mg) (MM:mg "min"=none):bA P w K mg base CX0 40 f fd pKr (spKr CK CC CM CS CB):=by
 refine F.ok E5 (fun vs H Q E h=>?_) (fun hD A outer s H vs Q E hr h=>?_)
 ·obtain⟨Ms,es,k,dx,m,sg,v,ev,W,rfl,_⟩:=h;rfl
 obtain⟨Ms,es,k,dx,m,sg,v,ev,W,rfl,hk,hR,e1,e2,ih,hQ,q⟩:=h;have kz:=lN hr;have r1:cQ 1 _:=hr.mono (by decide);have r2:cQ 2 _:=hr.mono (by decide);have r4:cQ 4 _:=hr.mono (by decide);have jl:cQ 39 _:=hr;refine⟨_,ai (bh (i:=2) E5.nd rfl (Or.inl rfl) (aL kc r4 (by rfl) nc.m nc.F.kp nc.b .nil bC (au (eg K (by rfl) (pv 0) (by rfl)) (au (eg K (by rfl) (pv 0) (by rfl)) aj))))
  (ai (eJ (pv 0) (Cq (Ah aw (jh (pv 2) TC.cl ow.m lj r4 ow.b .nil bC) Cp) rfl rfl (by simp) (by decide)) rfl)
  (ai (bh (i:=3) E5.nd rfl (Or.inl rfl) (eA aj))
  (ai (bh (i:=4) E5.nd rfl (Or.inl rfl) (gf (pv 2) TC.cl ME.m GE r1 ME.b .nil bC (bE (pv 1) aj)))
  (ai (vU cO (oK (Bb (pv 4))) (ai (bh (i:=5) E5.nd rfl (Or.inl rfl) (aL GR jl (by rfl) DR.m DR.F.kp DR.b .nil bC (bE (pv 2) (jc (cS (Ej rfl) (by rfl) MM E4 (au (eg K (by rfl) (pv 0) (by rfl)) (qU (cV jS (pv 1) (cS (eX K (by rfl)) (by rfl) B.len cA (bE (pv 3) aj))) aj))) aj))))
  (ai (d9 (nX bV PySem.F.slot_list_extend PySem.F.type_list_extend Er (pv 3) (l9 (bP cF (pv 5) aw (fun _ _=>rfl)) aj)))
  (ai (cK (bO eN (cS (eX K (by rfl)) (by rfl) B.len cA (l9 (bP cF (pv 5) aw (fun _ _=>rfl)) aj)) (eg K (by rfl) (pv 0) (by rfl)) (bX _)) (ay (kW kz (eg K (by rfl) (pv 0) (by rfl)) (cS (eX K (by rfl)) (by rfl) B.len cA (bE (pv 3) aj)) (jh (pv 2) TC.cl ow.m lj r4 ow.b .nil bC) rfl)) bS)
  (ay (bh (i:=4) E5.nd rfl (Or.inl rfl) (gf (pv 2) TC.cl ME.m GE r1 ME.b .nil bC (qU (cV jS (pv 1) (cS (eX K (by rfl)) (by rfl) B.len cA (bE (pv 3) aj))) aj))))))))
  (ay (bN (jW MB GB r2 (by rfl) TB.m bB .nil bC (bE (pv 3) (bE (pv 4) (au (eg K (by rfl) (pv 2) (by rfl)) aj)))))))))),?_⟩
 have big:=dW;have mo:=hR.mo.ok;obtain⟨kh,kv,ii⟩:=hR.sg;have oD:=DI k H
 -- the course
 refine cg (cL {_,rfl,k,CK,dx,_,_,rfl,hk,T.cl,T.nM,ke_m _ _ _ _,_,rfl,k,CK,dx,_,_,rfl,hk,T.cl,T.nS,ke_s _ _ _ _,Ms,m,sg,kh,es,rfl,hR.mo.same oD,hR.lm,oD _ _ kv,Paired.mono (fun _ _ z=>z.same oD) ii,hR.le,hR.ev,fun G1 co s' I C1=>aY ?_});dsimp only;have kn:H k≠none:=fun z=>by
  rw[hk]at z
  cases z
 have nf:∀b o,H b=some o->b≠co/\b≠s'/\b≠I/\G1 b=some o:=C1.sm;obtain⟨mW,mb,mx,oc⟩:=nf _ _ hk;have ln:k∈({[co,s',I],H}:Ex):=.inr {_,hk,fun xs z=>by cases z};have C1:=C1.weak oD
 -- the first mark
 refine cg fun d hd=>?_;have sd:=aF hd (.dK []);have C2:=C1.more hd (o:=.dK []) (fun xs z=>by cases z);obtain⟨kt,hC,hg,lk,_⟩:=id C2.hc;refine{_,rfl,co,kt,_,rfl,lk,w5 _ _ _ _ _ (by decide +kernel),Ms,co,m,_,rfl,C2.k,C2.rst,hR.lm,?_,fun G2 c0 hG hA nh=>?_}
 ·show (kZ (oH es) []).length<=1000000;rw[(d8 _ _).length_eq,cv,l8];have:=hR.le;omega
 have s2:aV (upd G1 d (.dK [])) G2:=fun a o e=>(nh.sm a o e).2.2.2;have lx:=s2 _ _ (jU hd (.dK []));refine{lx,[(Sum.inl 0,.ref c0)],rfl,(by show 1<=15;decide),?_};have ov:k≠d:=av oc hd;have lK:=(sd.trans s2) _ _ oc;refine{_,rfl,k,CK,dx,_,rfl,aS lK ov,T.cl,T.nK,Iy _ _ _ _,?_};rw[DJ];have Hd:H d=none:=by
  cases z:H d with
  |none=>rfl
  |some o=>
   rw[(nf _ _ z).2.2.2]at hd
   cases hd
 have nd:Wp k H d=none:=by
  unfold Wp;rw[if_neg ov.symm];exact Hd
 have md:d∈({[co,s',I],H}:Ex).add d:=Ex.here;have pr:co≠d/\s'≠d/\I≠d:=by
  obtain⟨_,_,_,y1,_⟩:=C1.hc;obtain⟨_,y2,_⟩:=C1.hs;obtain⟨_,y3,_⟩:=C1.hp;exact{av y1 hd,av y2 hd,av y3 hd}
 have wk0:Wp k H k=none:=by
  unfold Wp;rw[if_pos rfl]
 have C3:=((C2.same s2).upd (a:=d) (o:=.dK (kO [] [(Sum.inl 0,.ref c0)])) md nd pr.1 pr.2.1 pr.2.2 (fun xs z=>by cases z)).upd (a:=k) (o:=.ins CK dx (jI (.ref m) (.ref sg) (.int ev) (.ref d))) (Ex.more ln) wk0 mW.symm mb.symm mx.symm (fun xs z=>by cases z);have pp:=(ag:upd (upd G2 d (.dK (kO [] [(Sum.inl 0,.ref c0)]))) k (.ins CK dx (jI (.ref m) (.ref sg) (.int ev) (.ref d))) k=_);have pe:upd (upd G2 d (.dK (kO [] [(Sum.inl 0,.ref c0)]))) k (.ins CK dx (jI (.ref m) (.ref sg) (.int ev) (.ref d))) d=some (.dK [(Sum.inl 0,.ref c0)]):=aS ag ov.symm;have K0:∀{ex':Ex} (_:∀a∈ex',a≠k->a≠d->∃o,upd G1 d (.dK []) a=some o/\∀xs,o≠.tup xs) (_:k∈ex') (_:d∈ex'),CoK CC CS m (Hid ex' (upd (upd G2 d (.dK (kO [] [(Sum.inl 0,.ref c0)]))) k (.ins CK dx (jI (.ref m) (.ref sg) (.int ev) (.ref d))))) c0 (eG Ms es):=fun hx ik id=>by
  rw[gz ik,gz id];refine nh.kx fun a ha=>?_
  by_cases c1:a=k
  ·rw[c1];exact{_,sd _ _ oc,fun xs z=>by cases z}
  ·by_cases c2:a=d
   ·rw[c2];exact{_,jU hd _,fun xs z=>by cases z}
   ·exact hx a ha c1 c2
 have K1:=K0 (ex':={[k,co,s',I,d],H}) (fun a ha c1 c2=>by
  obtain⟨_,_,_,y1,_⟩:=C2.hc;obtain⟨_,y2,_⟩:=C2.hs;obtain⟨_,y3,_⟩:=C2.hp
  rcases ha with ha|⟨o,e,nt⟩
  ·have ha:a∈[k,co,s',I,d]:=ha;simp only[ar,aK,or_false]at ha
   rcases ha with ha|rfl|rfl|rfl|ha
   ·exact absurd ha c1
   ·exact{_,y1,fun xs z=>by cases z}
   ·exact{_,y2,fun xs z=>by cases z}
   ·exact{_,y3,fun xs z=>by cases z}
   ·exact absurd ha c2
  ·exact{o,sd _ _ (nf _ _ e).2.2.2,nt}) (.inl (by simp)) (.inl (by simp))
 revert C3 pp pe K1;clear K0;generalize upd (upd G2 d (.dK (kO [] [(Sum.inl 0,.ref c0)]))) k (.ins CK dx (jI (.ref m) (.ref sg) (.int ev) (.ref d)))=G3;intro C3 pp pe K1
 -- the records
 dsimp only;refine cg (cL {bU _,fun rl J=>aY ?_});dsimp only;have sr:=aF J (.lst []);have C4:=C3.more J (o:=.lst []) (fun xs z=>by cases z);have no:co≠rl/\s'≠rl/\I≠rl:=by
  obtain⟨_,_,_,y1,_⟩:=C3.hc;obtain⟨_,y2,_⟩:=C3.hs;obtain⟨_,y3,_⟩:=C3.hp;exact{av y1 J,av y2 J,av y3 J}
 have nr:Wp k H rl=none:=by
  cases z:Wp k H rl with
  |none=>rfl
  |some o=>
   rw[(C3.sm _ _ z).2.2.2]at J
   cases J
 have O:Kfx H k co s' I d rl ((({[co,s',I],H}:Ex).add d).add rl):={Ex.more (Ex.more ln),Ex.more md,Ex.here,nd,nr,mW.symm,mb.symm,mx.symm,pr.1,pr.2.1,pr.2.2,no.1,no.2.1,no.2.2,ov,av pp J,av pe J};have mr:=Mg Ms es;have R4:Krn CK CC CS Ms es H k dx m sg co s' I d rl ev W ((({[co,s',I],H}:Ex).add d).add rl) (upd G3 rl (.lst [])) (eG Ms es) [] [(Sum.inl 0,.ref c0)]:=by
  refine{C4,sr _ _ pp,sr _ _ pe,ag,{fun x hx=>?_,cG.mpr {(fun z=>by cases z),ic},by show 1<=50;decide},fun x hx y e=>?_,aD _,?_,ih}
  ·rw[aE.mp hx];refine{0,c0,eG Ms es,rfl,K1.same fun a o e=>?_,C4.rst,mr,?_}
   ·have ha:=dD _ _ e;have ne:=av ha J;rw[dS fun z=>?_]
    ·exact aS ha ne
    ·rcases Mv z with z|z
     case inr=>exact fb e (.inr z)
     refine fb e (.inl ?_);show a∈[k,co,s',I,d];simp only[ar,aK,or_false]
     rcases z with z|z|z|z|z|z
     ·exact .inl z
     ·exact .inr (.inl z)
     ·exact .inr (.inr (.inl z))
     ·exact .inr (.inr (.inr (.inl z)))
     ·exact .inr (.inr (.inr (.inr z)))
     ·exact absurd z ne
   ·show (kZ (oH es) []).length<=900000;rw[(d8 _ _).length_eq,cv,l8];have:=hR.le;omega
  ·rw[aE.mp hx]at e
   cases e;exact xr _
  ·show (kZ (oH es) []).length<=64+5000*0;rw[(d8 _ _).length_eq,cv,l8];have:=hR.le;omega
 revert R4;have old:∀{a:aa},(∃o,H a=some o/\∀xs,o≠.tup xs)->a∈((({[co,s',I],H}:Ex).add d).add rl):=fun z=>Ex.more (Ex.more (.inr z));generalize ((({[co,s',I],H}:Ex).add d).add rl)=ex at O old;generalize upd G3 rl (.lst [])=G4;intro R4;clear C4 C3 K1 sr J pp pe C2 nh lx s2 lk lK sd
 -- its ending
 have hH:=R4.c;obtain⟨hY,hn,hO,kB,_⟩:=id R4.c.hc;refine cg (cL {_,rfl,co,hY,_,rfl,kB,w5 _ _ _ _ _ (by decide +kernel),_,rfl,Ms,Wp k H,ex,co,m,s',I,_,W,rfl,R4.c,fun en G5 s5 js=>aY ?_});dsimp only;have R5:=R4.same s5;have rm:∀{rr:RS} {ll:Int} {v:V} {G:Hp},((gT rr ll=none/\v=.non)\/∃e,gT rr ll=some e/\nF (Hid ex G) v e)->(gT rr ll=none/\v=.non)\/(v≠.non/\∃e,gT rr ll=some e/\nF (Hid ex G) v e):=fun h=>by
  rcases h with h|⟨e,d,h⟩
  ·exact .inl h
  ·refine .inr {fun z=>?_,e,d,h};subst z
   cases e with
   |empty=>
    obtain⟨t,e',_⟩:=h
    cases e'
   |cut=>
    obtain⟨t,e',_⟩:=h
    cases e'
   |stp st=>
    cases st with
    |fin x=>
     obtain⟨t,kk,e',_⟩:=h
     cases e'
    |flt y x=>
     obtain⟨t,kk,e',_⟩:=h
     cases e'
 refine rG (fun nz G=>∃(r:RS) (en:V) (u5:Option V) (Z:List V) (kvs:List (Key×V)),nz=[some (.ref k),some (.int W),some (.ref co),some (.ref rl),some en,u5]/\Krn CK CC CS Ms es H k dx m sg co s' I d rl ev W ex G r Z kvs/\kvs.map (·.1)=pQ (Z.length/ev.toNat) ev/\(∃(i:Nat) (e:End),kT Ms (eG Ms es) W i e/\aP (RcIn (Hid ex G)) Z (itR Ms (eG Ms es) i).2/\nF (Hid ex G) en e)) ?_ ?_
 rotate_left
 ·intro N hN;refine{fun mm σ G=>∃(r:RS) (en:V) (u5:Option V) (Z:List V) (kvs:List (Key×V)),σ=[some (.ref k),some (.int W),some (.ref co),some (.ref rl),some en,u5]/\Krn CK CC CS Ms es H k dx m sg co s' I d rl ev W ex G r Z kvs/\kvs.map (·.1)=pQ (Z.length/ev.toNat) ev/\((en=.non/\gT r (W-Z.length)=none/\Mrk Ms es Z.length r/\aP (RcIn (Hid ex G)) Z (itR Ms (eG Ms es) Z.length).2/\ev.toNat ∣ Z.length/\mm=(W-Z.length).toNat+1)\/(en≠.non/\(∃(i:Nat) (e:End),kT Ms (eG Ms es) W i e/\aP (RcIn (Hid ex G)) Z (itR Ms (eG Ms es) i).2/\nF (Hid ex G) en e)/\mm=0)),?_,?_}
  ·have mu:([(Sum.inl 0,V.ref c0)]:List (Key×V)).map (·.1)=pQ (([]:List V).length/ev.toNat) ev:=by
    rw[cw,Nat.zero_div];unfold pQ;show [Sum.inl 0]=[Sum.inl ((0*ev.toNat:Nat):Int)];rw[Nat.zero_mul];rfl
   rcases rm js with⟨h1,h2⟩|⟨h,e0,d0,z0⟩
   ·exact{_,_,_,_,_,_,rfl,R5,mu,.inl {h2,by rw[show W-(([]:List V).length:Int)=W from Int.sub_zero _];exact h1,mr,.nil,Nat.dvd_zero _,rfl}}
   ·exact{_,_,_,_,_,_,rfl,R5,mu,.inr {h,{0,e0,{fun j hj=>absurd hj (gW _),by rw[show W-((itR Ms (eG Ms es) 0).2.length:Int)=W from Int.sub_zero _];exact d0,R5.c.ok},.nil,z0},rfl}}
  ·rintro mm σ G ⟨r,en,u5,Z,kvs,rfl,D,pq,hw⟩;refine{_,rfl,_,rfl,?_}
   rcases hw with⟨rfl,iv,mk,im,lf,rfl⟩|⟨ne,il,rfl⟩
   ·refine iH ?_;refine{_,fun _ _ h=>h,?_};have ka:=(iA iv).2.2;obtain⟨kk,kw,k1,k2,k3,k4⟩:∃kk:Int,(if W-(Z.length:Int)<ev then W-(Z.length:Int) else ev)=kk/\0<kk/\kk<=ev/\kk<=W-Z.length/\(kk=ev\/kk=W-Z.length):=by
     by_cases c:W-(Z.length:Int)<ev
     ·exact{_,if_pos c,by omega,by omega,by omega,.inr rfl}
     ·exact{_,if_neg c,by omega,by omega,by omega,.inl rfl}
    refine cg (cL {_,rfl,_,rfl,k,CK,dx,_,_,rfl,D.qk,T.cl,T.nE,ke_e _ _ _ _,_,rfl,_,rfl,rl,_,rfl,.inl (SqL.of D.qr),_,_,rfl,rfl,ev,W-Z.length,rfl,?_});rw[kw];have hB:=D.pd;have hK:=D.le;refine{Ms,Wp k H,ex,co,m,s',I,r,kk,rfl,hR.mo,D.c,by omega,by omega,fun G2 t i e R=>aY ?_};dsimp only;obtain⟨g,ly,Y,g1,g2,_,g3,_⟩:=R.rs;have l2:=aZ g3;have few:=yD mo R.st (by omega);have hS:=DK mo R.st.1;have oL:=R.ot;have mq:=oL _ O.k1.symm O.k2.symm O.k3.symm _ D.qk;have lz:=oL _ O.d1.symm O.d2.symm O.d3.symm _ D.qd;have oT:=oL _ O.r1.symm O.r2.symm O.r3.symm _ D.qr;have io:g≠rl:=fun z=>fb g2 (z ▸ O.ir);have lM:Kpt CC CS m Ms es (Hid (kx H k co s' I d rl) G2) kvs:=D.kp.same fun a o e=>by
     have na:=fb e;rw[dS na];have ni:∀{b:aa},b∈[k,co,s',I,d,rl]->a≠b:=fun hb z=>na (.inl (by rw[z];exact hb));exact oL a (ni (by simp)) (ni (by simp)) (ni (by simp)) o (dD _ _ e)
    have oq:G2 t=some (.tup [.ref g,ly]):=dD _ _ g1;have my:G2 g=some (.lst Y):=dD _ _ g2;refine cg {_,rfl,.inl {rfl,_,SqL.of oT},_,rfl,t,_,_,_,rfl,rfl,SqT.of oq,rfl,rl,g,Z,Y,rfl,rfl,oT,my,by omega,?_};have C3:=R.cc.upd (a:=rl) (o:=.lst (Z++Y)) O.ir O.nr O.r1 O.r2 O.r3 (fun xs z=>by cases z);have U:(Z++Y).length=Z.length+Y.length:=aA;have R3:Krn CK CC CS Ms es H k dx m sg co s' I d rl ev W ex (upd G2 rl (.lst (Z++Y))) (itR Ms r i).1 (Z++Y) kvs:=by
     refine{C3,aS mq O.kr,aS lz O.dr,ag,?_,fun q hq x e=>?_,?_,?_,?_}
     ·rw[gz (.inl (by simp))];exact lM
     ·have:=D.ku q hq x e;rw[U];omega
     ·have:=D.kl;rw[U];omega
     ·rw[U];omega
     ·rw[U];omega
    have pw:aP (RcIn (Hid ex (upd G2 rl (.lst (Z++Y))))) (Z++Y) ((itR Ms (eG Ms es) Z.length).2++(itR Ms r i).2):=by
     rw[gz O.ir];exact IB (Paired.mono (fun _ _ z=>z.same R.sm) im) g3
    have pb:upd G2 rl (.lst (Z++Y)) t=some (.tup [.ref g,ly]):=aS oq (fun z=>by
     rw[z,oT]at oq
     cases oq)
    have nT:upd G2 rl (.lst (Z++Y)) g=some (.lst Y):=aS my io;revert R3 pw pb nT;clear C3 mq lz oT lM;generalize upd G2 rl (.lst (Z++Y))=G3;intro R3 pw pb nT;dsimp only;obtain⟨qn,pa⟩:=lf;have ml:0<ev.toNat:=by omega
    have qd:Z.length/ev.toNat=qn:=by rw[pa];exact Nat.mul_div_cancel_left _ ml
    rw[qd]at pq;refine rG (fun nz G'=>nz=[some (.ref k),some (.int W),some (.ref co),some (.ref rl),some .non,some (.ref t)]/\∃ph,Krn CK CC CS Ms es H k dx m sg co s' I d rl ev W ex G' (itR Ms r i).1 (Z++Y) ph/\aP (RcIn (Hid ex G')) (Z++Y) ((itR Ms (eG Ms es) Z.length).2++(itR Ms r i).2)/\ph.map (·.1)=pQ ((Z++Y).length/ev.toNat) ev/\((Mrk Ms es (Z++Y).length (itR Ms r i).1/\(itR Ms (eG Ms es) (Z++Y).length).2=(itR Ms (eG Ms es) Z.length).2++(itR Ms r i).2/\0<Y.length/\ev.toNat ∣ (Z++Y).length)\/∃e',gT (itR Ms r i).1 (W-(Z++Y).length)=some e')) ?_ ?_
    rotate_left
    ·intro N' mz;refine fZ {_,rfl,t,_,_,_,rfl,rfl,SqT.of pb,rfl,g,Y,rfl,.inl (SqL.of nT),_,rfl,k,CK,dx,_,_,rfl,R3.qk,T.cl,T.nE,ke_e _ _ _ _,rfl,_,rfl,gi (fun c=>?_) (fun c=>?_)}
     ·have c:(Y.length:Int)=ev:=V.int.inj (of_decide_eq_true c);have full:((itR Ms r i).2.length:Int)=kk:=by omega
      obtain⟨mk',ik⟩:=mk.full mo R.st full;have ei:Z.length+i=(Z++Y).length:=by rw[U];omega
      rw[ei]at mk';have pk:(itR Ms (eG Ms es) (Z++Y).length).2=(itR Ms (eG Ms es) Z.length).2++(itR Ms r i).2:=by
       rw[<- ei,rq,<- mk.e]
      have nl:(Z++Y).length=(qn+1)*ev.toNat:=by
       rw[U,pa,vj,B7];omega
      obtain⟨pi,mf,mn,pc,_⟩:=id R3.c.hc;have hF:=R3.pd;have hI:=R3.le;refine{_,rfl,co,pi,_,rfl,pc,w5 _ _ _ _ _ (by decide +kernel),Ms,co,m,_,rfl,R3.c.k,R3.c.rst,hR.lm,by omega,fun lR c1 hy hP lp=>?_};have s4:aV G3 lR:=fun a o e=>(lp.sm a o e).2.2.2;have M:=R3.same s4;have lw:(Sum.inl ((Z++Y).length:Int):Key)∉kvs.map (·.1):=fun z=>by
       obtain⟨x,hx,e⟩:=cB.mp z;have:=D.ku x hx _ e;rw[U]at this;omega
      have fk:kvs.length<aB:=by
       have:=D.kp.few;omega
      have dp:=sQ.k (k:=Sum.inl ((Z++Y).length:Int)) (v:=.ref c1) M.qd fk;rw[AW lw]at dp;refine{_,rfl,k,CK,dx,_,_,rfl,M.qk,T.cl,T.nK,Iw _ _ _ _,_,rfl,rl,_,rfl,.inl (SqL.of M.qr),d,_,rfl,dp,mz _ _ {rfl,kvs++[(Sum.inl ((Z++Y).length:Int),.ref c1)],?_,?_,?_,.inl {mk',pk,by omega,{qn+1,by rw[nl,vj]}}}}
      rotate_left
      ·rw[gz O.id];exact Paired.mono (fun _ _ z=>z.same (gv s4)) pw
      ·rw[bT,pq,nl,Nat.mul_div_cancel _ ml,ID];rfl
      refine{M.c.upd (a:=d) O.id O.nd O.d1 O.d2 O.d3 (fun xs z=>by cases z),aS M.qk O.kd,ag,aS M.qr O.dr.symm,{fun q hq=>?_,?_,?_},fun q hq x e=>?_,?_,M.pd,M.le}
      ·rw[gz (.inl (by simp))]
       rcases bY.mp hq with z|z
       ·exact M.kp.at_ q z
       ·rw[aE.mp z];exact{(Z++Y).length,c1,_,rfl,lp.kx R3.kx,R3.c.rst,mk',by omega}
      ·rw[bT];exact yX D.kp.nd lw
      ·rw[aA];show kvs.length+1<=50;have:=D.kl;omega
      ·rcases bY.mp hq with z|z
       ·have:=D.ku q z x e;rw[U];omega
       ·rw[aE.mp z]at e
        cases e;exact xr _
      ·rw[aA];show kvs.length+1<=_;have:=D.kl;rw[U];omega
     ·have c:(Y.length:Int)≠ev:=fun z=>c (by rw[z];exact decide_eq_true rfl);refine mz _ _ {rfl,kvs,R3,pw,?_,.inr ?_}
      ·have:(Z++Y).length/ev.toNat=qn:=Nat.div_eq_of_lt_le (by rw[U,pa,vj];omega) (by rw[U,pa,vj,B7];omega);rw[this];exact pq
      refine IC R.st.2.1 ?_
      by_cases ce:e=.cut
      ·right
       have z:=R.st.2.1;rw[ce]at z;have:=K2 z;rw[U];omega
      ·exact .inl ce
    rintro _ lR ⟨rfl,ph,M,ls,oe,kG⟩;obtain⟨pi,mf,mn,pc,_⟩:=id M.c.hc;refine cL {_,rfl,co,pi,_,rfl,pc,w5 _ _ _ _ _ (by decide +kernel),_,rfl,_,rfl,rl,_,rfl,.inl (SqL.of M.qr),_,_,rfl,rfl,Ms,Wp k H,ex,co,m,s',I,_,W-(Z++Y).length,rfl,M.c,fun hL G6 s6 mv=>aY ?_};dsimp only;have R6:=M.same s6;have oi:=Paired.mono (fun _ _ z=>RcIn.same (gv (ex:=ex) s6) z) ls
    rcases rm mv with⟨h1,rfl⟩|⟨h,e6,d6,z6⟩
    ·rcases kG with⟨mk',pk,pos,dv⟩|⟨e',y⟩
     ·have hz:=R6.le;exact{(W-((Z++Y).length:Int)).toNat+1,by rw[U];omega,_,_,_,_,_,rfl,R6,oe,.inl {rfl,h1,mk',by rw[pk];exact oi,dv,rfl}}
     ·rw[h1]at y
      cases y
    ·rw[U,l2]at d6;obtain⟨kI,jp⟩:=mk.stops R.st k3 d6 (by omega);exact{0,by omega,_,_,_,_,_,rfl,R6,oe,.inr {h,{_,e6,kI,by rw[jp];exact oi,z6},rfl}}
   ·rw[decide_eq_false ne];exact gb (hN _ _ {_,_,_,_,_,rfl,D,pq,il})
 rintro _ G ⟨r,en,u5,Z,kvs,rfl,D,pq,⟨iF,eF,ix,ky,la⟩⟩;obtain⟨pi,mf,mn,pc,_⟩:=id D.c.hc;refine eS (uo ?_);refine{_,rfl,_,rfl,_,rfl,co,CC,pi,_,_,rfl,pc,TC.cl,TC.nS,HS _ _ _ _ _,fun b mt hb ki nb=>{b,mt,_,_,_,rfl,ag,fun G' lc but=>{rfl,?_}}};have mc:aV G G':=fun a o e=>but _ _ (aS (aS e (av e ki)) (av e hb)) (av e hb);have px:=D.same mc;have hE:=px.le;have hT:H d=none:=by
  have:=O.nd;unfold Wp at this;rw[if_neg O.kd.symm]at this;exact this
 have hX:H rl=none:=by
  have:=O.nr;unfold Wp at this;rw[if_neg O.kr.symm]at this;exact this
 have sF:aV (Hid ex G) (Hid {[],H} G'):=fun a o e=>by
  rw[dS fun z=>?_]
  ·exact mc _ _ (dD _ _ e)
  ·rcases z with z|z
   ·cases z
   ·exact fb e (old z)
 refine q G' b mt rl d en (.ref s') Z kvs iF eF ix (by rw[dS (iJ hX)];exact px.qr) (Paired.mono (fun _ _ z=>z.same sF) ky) (la.same sF) pq (fun a o e na=>(px.c.sm a o (jH e na)).2.2.2) lc px.qr (by omega) px.qk (by rw[dS (iJ hT)];exact px.qd) (px.kp.same fun a o e=>?_);rw[dS fun z=>?_]
 ·exact dD _ _ e
 ·rcases z with z|z
  ·cases z
  ·exact fb e (.inr z)
end
end My
namespace HT
open PySem PyProof.Rows
open PySem.SeqAt
open PySem.AutoSeq1 (wpAny_loadPart')
open PySem.MeetsSeq PySem.MeetsSeq2 PySem.MeetsSeq3
theorem K4(l b:aa)(xs ys:Array af)(n m:Nat)(dd de:Option aa)(sl sm:Array (Option af))(ns ms:List Int)(hi:dN xs.toList ns)(hj:dN ys.toList ms) :
  Meets (iB.«tuple.__le__» {[.ref l,.ref b],[]})
   (fun _ R s=>s.heap.get? l=some {cls:=.type "tuple",dict:=dd,data:=.seq xs n,slots:=sl}/\s.heap.get? b=some {cls:=.type "tuple",dict:=de,data:=.seq ys m,slots:=sm}/\R (.ok (.ret (.bool (!lexLt ms ns)))) s):=
 .of_wp fun prog w A R s h=>by
  obtain⟨hp,g,d,tk,os⟩:=s;obtain⟨hl,hb,h⟩:=h;have f2:=jd;have z1:xs.size=ns.length:=by rw[<- hi.length];simp
  have z2:ys.size=ms.length:=by rw[<- hj.length];simp
  wp_walk using dy hl,dy hb,lL _ (fun rest b s'=>b.1=none/\s'=⟨hp,g,d,tk,os⟩/\∃(vs H:List af) (Y W:List Int),rest=vs.zip H /\
   dN vs Y/\dN H W/\Y.length+ys.size=W.length+xs.size/\R (.ok (.ret (.bool (!lexLt W Y)))) ⟨hp,g,d,tk,os⟩) _
  case turn=>
   rintro⟨y,x⟩ rest b s' ⟨M,rfl,vs,H,Y,W,U,hv,hw,Z,O⟩
   cases hv with
   |nil=>rw[uI]at U;cases U
   |cons a t hv=>
    cases hw with
    |nil=>rw[tM]at U;cases U
    |cons c u hw=>
     rw[eZ]at U;injection U with bI J;injection bI with hy hx;subst hy hx;rw[lexLt_cons]at O;simp only[aT]at Z;obtain⟨e,he,V⟩:=wx A.in1 ⟨hp,g,d,tk,os⟩ a t c u;refine ax (he prog w _ _ ?_)
     cases e with
     |true=>
      rw[if_pos (V.mp rfl).symm]at O
      wp_walk
      exact{rfl,rfl,_,_,_,_,J,hv,hw,by omega,O}
     |false=>
      rw[if_neg (fun q=>absurd (V.mpr q.symm) aW)]at O;have D:∀(E:af->ak->Prop) (Q:af->ak->Prop),Q (.bool (decide (a<=c))) ⟨hp,g,d,tk,os⟩->aX (bf prog w) A.in1 (p5 .LtE (.int a t) (.int c u)) Q E ⟨hp,g,d,tk,os⟩:=fun E Q q=>
       (PyProof.Rows.le_int q:aX (bf prog w) A.in1 (cU .LtE (.int a t) (.int c u)) Q E _)
      wp_walk using D
      have ca:a≠c:=fun q=>absurd (V.mpr q) aW;have hd:(!decide (c<a))=decide (a<=c):=by
       by_cases z:c<a
       ·rw[decide_eq_true z,decide_eq_false (by omega)];rfl
       ·rw[decide_eq_false z,decide_eq_true (by omega)];rfl
      rw[hd]at O;exact{_,rfl,O}
  case fin=>
   rintro⟨b1,b2⟩ s' ⟨M,rfl,vs,H,Y,W,U,bH,I,Z,O⟩;simp only at M;subst M;have hv:lexLt W Y=decide (ys.size<xs.size):=by
    cases bH with
    |nil=>
     cases I with
     |nil=>
      simp only[cw]at Z;rw[m8];exact (decide_eq_false (by omega)).symm
     |cons c u hw=>
      simp only[cw,aT]at Z;rw[lJ];exact (decide_eq_false (by omega)).symm
    |cons a t hv=>
     cases I with
     |nil=>
      simp only[cw,aT]at Z;rw[lI];exact (decide_eq_true (by omega)).symm
     |cons c u hw=>
      rw[eZ]at U
      cases U
   have hd:(!decide (ys.size<xs.size))=decide (xs.size<=ys.size):=by
    by_cases z:ys.size<xs.size
    ·rw[decide_eq_true z,decide_eq_false (by omega)];rfl
    ·rw[decide_eq_false z,decide_eq_true (by omega)];rfl
   rw[hv,hd]at O
   wp_walk
   exact{_,rfl,by simpa[jr] using O}
  case h=>
   exact{rfl,rfl,xs.toList,ys.toList,ns,ms,rfl,hi,hj,by omega,h}
theorem le_tup{prog:aN}{w:bL}{A:bZ}{E:af->ak->Prop}{s:ak}{l b:aa}{xs ys:Array af}{ns ms:List Int}{Q:af->ak->Prop}(hl:rY s.heap l xs)(hb:rY s.heap b ys)(hi:dN xs.toList ns)(W:dN ys.toList ms)
  (hu:A.units<eK) (h:Q (.bool (!lexLt ms ns)) s):aX (bf prog w) A (cU .LtE (.ref l) (.ref b)) Q E s:=by
 obtain⟨⟨c1,dd,t1,sl⟩,Z,rfl,n,rfl⟩:=id hl;obtain⟨⟨O,V,U,sm⟩,Y,rfl,m,rfl⟩:=id hb;exact kM (op:=.LtE) {_,Z,rfl} {_,Y,rfl} PySem.F.slot_tuple_le PySem.F.entry_tuple_le (PySem.F.args_tuple_le_2 _ _) (K4 l b xs ys n m dd V sl sm ns ms hi W)
  {Z,Y,show Value.bool (!lexLt ms ns)≠Value.notImplemented/\Q (.bool (!lexLt ms ns)) s from{(fun x=>nomatch x),h}} hu
end HT
namespace L2
open PySem PySem.Spec PyProof.Rows
section
variable{X:Cx}
theorem OH(hu:X.A.units<eK):OpR X (cU .LtE) (fun x y H Q=>∃a b ns ms,x=.ref a/\y=.ref b/\H a=some (.tup (ns.map V.int))/\H b=some (.tup (ms.map V.int))/\Q (.bl (!HT.lexLt ms ns)) H):=by
 intro pins s σ H x y v u Q I W U h;obtain⟨a,b,ns,ms,rfl,rfl,ha,hb,q⟩:=h
 cases W
 cases U;obtain⟨Y,r1,O,_⟩:=I.tuple (SqT.of ha);obtain⟨Z,r2,p2,_⟩:=I.tuple (SqT.of hb);have i1:dN Y.toArray.toList ns:=intsAre_of r1;have i2:dN Z.toArray.toList ms:=intsAre_of r2;exact HT.le_tup O p2 i1 i2 hu {.bl (!HT.lexLt ms ns),H,I,rfl,q}
end
end L2
namespace My
open PySem L2
theorem OI{CC CS:aa}{Ms:List MD}{Hb G:Hp}{ex:Ex}{co m sl pl:aa}{r:RS}(c:iL CC CS Ms Hb ex G co m sl pl r){x:Ev}{Z:List V}(hp:aP (hZ (Hid ex G)) Z (kD x r.pd))(ok:ROk Ms.length (wit x r)):iL CC CS Ms Hb ex (upd G pl (.lst Z)) co m sl pl (wit x r):=by
 obtain⟨dx,O,sv,h1,h2,M⟩:=c.hc;obtain⟨W,Y,U⟩:=c.hs;have hu:Hid ex (upd G pl (.lst Z))=Hid ex G:=gz c.i3;refine{ok,fun b o e=>?_,c.i1,c.i2,c.i3,c.n1,c.n2,c.n3,{dx,O,sv,aS h1 c.n2,?_,?_},{W,aS Y c.n3,?_},{Z,ag,?_},c.wk,fun a ha=>?_}
 ·obtain⟨a1,a2,a3,a4⟩:=c.sm b o e;exact{a1,a2,a3,aS a4 a3}
 ·rw[hu];exact h2
 ·rw[hu];exact M
 ·rw[hu];exact U
 ·rw[hu];exact hp
 ·by_cases z:a=pl
  ·rw[z];exact{_,ag,fun xs y=>by cases y}
  ·obtain⟨o,e,n⟩:=c.nt a ha;exact{o,aS e z,n}
theorem IE{xs:List V}{n:Nat}(h:n+1=xs.length):atI xs (-1)=some (xs[n]'(by omega)):=by
 unfold atI ixN;rw[if_neg (by decide),if_pos (by omega)];show xs[((-1:Int)+xs.length).toNat]?=_;rw[show ((-1:Int)+xs.length).toNat=n by omega,aI (by omega)]
section
variable{P:aN}{w:bL}{K:ae}{mg:Str->Option af}{base:cz}{f fCf fPf fPu fR CK CC CM CS CN CL:aa}{fd fdCf fdPf fdPu fdR:bR}
seal PS PSs PE PA PT PW PI PG PGs PC
abbrev nFk:List Str:=["keeper","number","sign","most","course","happening"]
abbrev pFk:List Str:=["keeper","number","sign","most"]
theorem OJ:bM nFk pFk (aM wL):={}
inductive Mx(CK CC CM CS CN CL:aa)(vs:List V)(H:Hp)(Q:VK)(E:XK):Prop where
 |mk(Ms:List MD)(es:List Ev)(k m sl kd:aa)(ev n most:Int)(kvs:List (Key×V))(sv:V)(x:Ev)(_:vs=[.ref k,.int n,sv,.int most])(_:E2 CK CC CM CS Ms es H k m sl kd ev kvs)(_:tj H sv x)(_:wV Ms.length x)(_:most<=1000)(_:(n∉iR kvs->E (.ref CN) none H))(_:(∀(nn:Nat) r G,n∈iR kvs->n=nn->Mrk Ms es nn r->¬Oz r (atP x es.length)->aV H G->E (.ref CL) none G))(_:∀(G:Hp) (t rl:aa) (en:V) (rvs:List V) (nn i:Nat) (r:RS) (e:End),n∈iR kvs->n=nn->Oz r (atP x es.length)->Mrk Ms es nn r->kT Ms (wit (atP x es.length) r) most i e->aV H G->Hid ⟨[],H⟩ G t=some (.tup [.ref rl,en])->Hid ⟨[],H⟩ G rl=some (.lst rvs)->aP (RcIn (Hid ⟨[],H⟩ G)) rvs (itR Ms (wit (atP x es.length) r) i).2->nF (Hid ⟨[],H⟩ G) en e->Q (.ref t) G):Mx CK CC CM CS CN CL vs H Q E
def spFk(CK CC CM CS CN CL:aa):Sp:=fun vs H Q E=>Mx CK CC CM CS CN CL vs H Q E
theorem ok_fk(D:Df K mg "fork" wL pFk f fd)(eH:Mt K CK "course_from" "Keeper.course_from" eW pKc fCf fdCf)(ef:bA P w K mg base (CXo P w) 5 fCf fdCf pKc (OD CK CC CM CS CN))(J:Df K mg "pending_at_first" gc ["signs"] fPf fdPf)(eo:bA P w K mg base CX0 1 fPf fdPf ["signs"] HL)(fo:Df K mg "put_in" qF ["falling","thing"] fPu fdPu)(er:bA P w K mg base CX0 2 fPu fdPu ["falling","thing"] AL)(DR:Df K mg "run_on" lS ["course","most"] fR fdR)(GR:bA P w K mg base CX0 39 fR fdR ["course","most"] (AN CC CM CS))(T:KeT K mg CK)(TC:CoT K mg CC)(mL:mg "TooLate"=some (.ref CL))(xL:cP K CL oV "ValueError.__new__"=true):bA P w K mg base (CXo P w) 40 f fd pFk (spFk CK CC CM CS CN CL):=by
 refine D.F.okX OJ (fun vs H Q E h=>?_) (fun eh A outer s H vs Q E hr h=>?_)
 ·obtain⟨Ms,es,k,m,sl,kd,ev,n,Y,kvs,sv,x,rfl,_⟩:=h;rfl
 obtain⟨Ms,es,k,m,sl,kd,ev,n,Y,kvs,sv,x,rfl,hk,hs,hx,hm,nm,late,q⟩:=h;have dL:=lN hr;have ea:(A.deeper (PyProof.Rows.envOfC "fork" (aM wL) s.heap.objs.size f eh)).units<eK:=by omega
 have r1:cQ 1 _:=hr.mono (by decide);have r2:cQ 2 _:=hr.mono (by decide);have r5:cQ 5 _:=hr.mono (by decide);have el:cQ 39 _:=hr;refine⟨_,ai (bh (i:=4) OJ.nd rfl (Or.inl rfl) (gf (pv 0) T.cl eH.m ef r5 eH.b .nil (dP.passes fun _ _ _ z=>z) (bE (pv 1) aj)))
  (ai (bh (i:=5) OJ.nd rfl (Or.inl rfl) (bP cJ (aL eo r1 (by rfl) J.m J.F.kp J.b .nil bC (qU (cV FS (eg K (by rfl) (pv 0) (by rfl)) (eA (bE (pv 2) aj))) aj)) (Fy Bf aw) (fun _ _=>rfl)))
  (ai (cK ((oM (oK (vk (eg K (by rfl) (pv 4) (by rfl)))) (mJ (bO (OH ea) (bP cF (pv 5) aw (fun _ _=>rfl)) (eg K (by rfl) (pv 4) (by rfl)) (bX _)))).pt) (ay (jB dP rfl rfl mL xL ((dB cb aj)))) bS)
  (ai (d9 (aL er r2 (by rfl) fo.m fo.F.kp fo.b .nil bC (au (eg K (by rfl) (pv 4) (by rfl)) (bE (pv 5) aj))))
  (ay (bN (aL GR el (by rfl) DR.m DR.F.kp DR.b .nil bC (bE (pv 4) (bE (pv 3) aj)))))))),?_⟩
 have big:=dW;have mo:=hk.rn.mo.ok;obtain⟨dx,ob⟩:=hk.ob;refine cg (cL {_,rfl,k,dx,_,rfl,ob,uV _ _ _ _ (by decide +kernel),_,rfl,Ms,es,k,m,sl,kd,ev,n,kvs,rfl,hk,nm,fun G1 I fx ft nn r fe en hM lp C=>aY ?_});dsimp only;have s1:aV H G1:=fun a o e=>(C.sm a o e).2.2.2;have R1:=hk.rn.same s1;obtain⟨V,et,g⟩:=R1.sg;have dV:=aZ g;have le:=hk.rn.le;have em:tj G1 sv x:=hs.same s1;have ei:=s1 _ _ ob;refine cg (cL {_,rfl,k,CK,dx,_,_,rfl,ei,T.cl,T.nS,ke_s _ _ _ _,_,rfl,by show 1<=aB;omega,fun l1 ey=>?_});have t1:=aF ey (.lst [sv]);refine{sl,l1,V,[sv],rfl,rfl,t1 _ _ et,ag,by show V.length+1<=aB;omega,fun l2 eL=>?_};have t2:=aF eL (.lst (V++[sv]));have W:=t1.trans t2;refine{l2,V++[sv],es++[x],rfl,ag,IB (Paired.mono (fun _ _ z=>tj.same W z) g) (.cons (em.same W) .nil),by rw[aA];show es.length+1<1000;omega,fun G2 l3 ys t3 ee fk U fa=>?_};rw[aA]at U;have U:ys.length=es.length+1:=U;refine{1,rfl,l3,ys,-1,ys[es.length],rfl,rfl,SqL.of fk,IE U.symm,aY ?_};have ev:=fa es.length ys[es.length] x (aI (by omega)) (by rw[df (aD _),mH];rfl);have ew:=W.trans t3;have C2:=C.same ew;have eb:=s1.trans ew;clear fa fk ee t3 W t2 t1 ey eL et g R1;generalize ys[es.length]=hv at ev;dsimp only;obtain⟨th,kh,ec,q1,q2⟩:=id ev;obtain⟨M,rv,dG,O,Z,_⟩:=id C2.hc;refine rG (fun ek G=>ek=[some (.ref k),some (.int n),some sv,some (.int Y),some (.ref I),some hv]/\G2=G/\Oz r (atP x es.length)) ?_ ?_
 rotate_left
 ·intro N hN;refine fZ {_,rfl,I,CC,M,_,_,rfl,O,TC.cl,TC.nR,Oc _ _ _ _ _,_,rfl,?_}
  cases hq:r.re with
  |none=>
   rw[hq]at Z;have Z:rv=.non:=Z;subst Z;exact gb (gb (hN _ _ {rfl,rfl,fun h hh=>by rw[hq]at hh;cases hh}))
  |some h=>
   rw[hq]at Z;obtain⟨kr,rfl,ej⟩:=Z;refine iH ?_;refine{_,rfl,th,_,_,.ref kh,ec,rfl,SqT.of q1,rfl,_,rfl,I,CC,M,_,_,rfl,O,TC.cl,TC.nR,Oc _ _ _ _ _,kh,kr,(atP x es.length).key,h.key,rfl,rfl,q2,dD _ _ ej,_,rfl,?_}
   cases pl:HT.lexLt h.key (atP x es.length).key with
   |true=>exact gb (hN _ _ ⟨rfl,rfl,fun h' hh=>by
     rw[hq]at hh
     cases hh;exact pl⟩)
   |false=>exact iH ⟨BZ,late nn r _ fe en hM (fun z=>by
     have:=z h hq;rw[pl]at this
     cases this) eb⟩
 rintro _ _ ⟨rfl,rfl,ez⟩;obtain⟨ps,g1,g2⟩:=C2.hp;have un:=OB (x:=x) mo hM;refine cg {_,rfl,I,CC,M,_,_,rfl,O,TC.cl,TC.nP,HU _ _ _ _ _,_,rfl,?_};refine tE ?_;refine Dh (F:=Hid {[I,fx,ft],H} G2) dD g1 g2 C2.ok.fall (hZ.hid C2.nt ev) un (by omega) fun dz eF=>?_;have C3:=OI C2 eF (KU C2.ok ⟨hx.to0,hx.to1,hx.wt,hx.wa,hx.wb⟩ rfl un);have l3:(wit (atP x es.length) r).pd.length<=1000000:=by
  show (kD (atP x es.length) r.pd).length<=_;rw[(ia _ _).length_eq];show r.pd.length+1<=_;omega
 dsimp only;refine eS {_,rfl,_,rfl,Ms,H,_,I,m,fx,ft,_,Y,rfl,hk.rn.mo,C3,hm,l3,fun G4 t i e R=>?_};obtain⟨rl,env,ed,j1,j2,_,j3,j4⟩:=R.rs;have sH:aV H G4:=fun a o e=>(R.cc.sm a o e).2.2.2;have sh:aV (Hid {[I,fx,ft],H} G4) (Hid {[],H} G4):=fun a o e=>by
  have n:a∉({[],H}:Ex):=fun z=>fb e (z.elim (fun y=>absurd y aK) .inr);rw[dS n];exact dD _ _ e
 exact q G4 t rl env ed nn i r e fe en ez hM R.st sH (sh _ _ j1) (sh _ _ j2) (Paired.mono (fun _ _ z=>z.same sh) j3) (j4.same sh)
end
end My
namespace L2
open PySem PySem.Spec PyProof.Rows
section
variable{X:Cx}{tg:cN}
end
theorem E6{a b c:Int}(h1:1<=c)(h2:c<=1000)(O:0<=a)(W:a<=1000000)(U:0<=b)(V:b<=1000000):pF a b c=true/\0<=c5 a b c:=by
 have e:c5 a b c=if a<b then (b-a-1)/c+1 else 0:=by
  unfold c5;rw[if_pos (by omega)]
 have Z:0<=c5 a b c/\c5 a b c<=1000001:=by
  rw[e]
  split
  ·have Y:0<=(b-a-1)/c:=Int.ediv_nonneg (by omega) (by omega);have d1:(b-a-1)/c<=b-a-1:=Int.ediv_le_self c (by omega);omega
  ·omega
 refine{?_,Z.1};unfold pF;generalize c5 a b c=z at Z;simp only[Builtin.Range.rangeFitsLong,kF,Bool.or_eq_true,decide_eq_true_eq,beq_iff_eq];rw[if_pos (by omega)];refine{by omega,.inr ?_};rw[kF,decide_eq_true_eq,decide_eq_true_eq];omega
def tLR(ta:TA):TE:=fun σ H Q=>ta σ H fun vs H1=>∃i j c:Int,∃n:Nat,vs=[.int i,.int j,.int c]/\1<=c/\c<=1000/\pF i j c=true/\c5 i j c=n/\n<=1000/\∀l,H1 l=none->Q (.ref l) (upd H1 l (.lst ((gx n).map fun k:Nat=>V.int (i+k*c))))
theorem IF{i c:Int}:∀{n:Nat} {us:List af},us.length=n->(∀(j:Nat) (v:af),us[j]?=some v->∃t,v=Value.int (i+j*c) t)->cX ((gx n).map fun k:Nat=>V.int (i+k*c)) us:=by
 intro n
 induction n with
 |zero=>
  intro us h _;rw[xb h];exact .nil
 |succ n Y=>
  intro us h hv;obtain⟨init,Z,rfl⟩:∃a b,us=a++[b]:={us.dropLast,us.getLast (by intro z;rw[z]at h;cases h),(List.dropLast_concat_getLast _).symm};have hl:init.length=n:=by
   rw[aA]at h;have:init.length+1=n+1:=h;omega
  rw[K3,bT];refine cX.append (Y hl fun j v e=>hv j v ?_) (.cons ?_ .nil)
  ·rw[eO (aG.mp e).1];exact e
  ·exact hv n Z (by rw[df (by omega),hl,mH];rfl)
section
variable{X:Cx}
theorem zK{a b c:cN}{ta:TA}{p q pos pos':Pos}(hc:X.calm=true)(hg:Gl X "range")(hm:X.mg "range"=none)(U:Gl X "list")(V:X.mg "list"=none)(hb:eQ "list"=some (.type "list"))(ha:PA X [a,b,c] ta)(hs:cu [a,b,c] X.env=(false,fg a X.env)::cu [b,c] X.env:=by rfl)(O:cu [b,c] X.env=[(false,fg b X.env),(false,fg c X.env)]:=by rfl)(W:cu [.Call (.Name "range" p) [a,b,c] [] pos] X.env=[(false,fg (.Call (.Name "range" p) [a,b,c] [] pos) X.env)]:=by rfl) :
  PE X (.Call (.Name "list" q) [.Call (.Name "range" p) [a,b,c] [] pos] [] pos') (tLR ta):=by
 intro pins s σ H Q I h;refine gQ (p8 I U V hb (gk ?_ W rfl));rw[W];refine Eo ?_;refine Call_ (p8 I hg hm boot_range (gk (thn (ha pos pins s σ H _ I h) fun us M ⟨vs,H1,g,r1,J⟩=>?_) hs (by rw[O];rfl)));obtain⟨i,j,k,n,e,J,q2,z,q4,q5,q⟩:=J;subst e
 cases r1 with
 |cons r Y=>
  cases Y with
  |cons r' Y=>
   cases Y with
   |cons r2 Y=>
    cases Y;obtain⟨t,rfl⟩:=r;obtain⟨t',rfl⟩:=r';obtain⟨t2,rfl⟩:=r2;refine call_range_3 (by omega) ?_ (.inl (yO (by omega)));refine Fc ?_;have D:Inv X pins σ H1 {M with heap:=M.heap.push {cls:=.type "range",data:=.fields #[.int i t,.int j t',.int k t2]}}:=g.kept (t':=M.toks) fun b o e=>aJ _ e;refine call_list_range (I.ok.hd hc) (Lh ..) z q4 (by omega) fun h' tk Z c' kp e it=>?_;have hz:1000<=aB:=by decide
    have v:=IF (i:=i) (c:=k) (n:=n) (us:=Z.toList) (by rw[fK];exact it.1) fun j v e=>it.2 j v (by rw[<- jX];exact e);refine{.ref _,_,D.laid (t':=tk) kp (aD _) (show eE X.prog X.w _ h' _ (.lst _) from{by rw[ao,List.length_range];omega,Z.toList,c',v,e}),rfl,q _ (D.hok.fresh (aD _))}
end
end L2
namespace My
open PySem L2
theorem vN{H:Hp}{n:Nat}{p q:aa}{xs:List V}(hp:H p=some (.tup xs))(hq:H q=some (.tup xs))(sc:∀x∈xs,sc0 x):TEq H (n+1) (.ref p) (.ref q):=
 .inr (.inr ⟨p,q,xs,xs,rfl,rfl,hp,hq,by
  clear hp hq
  induction xs with
  |nil=>exact .nil
  |cons x xs Z=>
   refine .cons ?_ (Z fun y hy=>sc y (ah _ hy))
   cases n with
   |zero=>exact{sc x aC,rfl}
   |succ n=>exact .inl {sc x aC,rfl}⟩)
theorem xn{H:Hp}{n:Nat}{Y:Type}{R S:V->Y->Prop}(f:∀x y a,R x a->S y a->TEq H n x y):∀{xs ys:List V} {Z:List Y},aP R xs Z->aP S ys Z->aP (TEq H n) xs ys:=by
 intro xs ys Z p
 induction p generalizing ys with
 |nil=>
  intro q
  cases q;exact .nil
 |cons a b W=>
  intro q
  cases q with
  |cons c d=>exact .cons (f _ _ _ a c) (W d)
theorem K6{H:Hp}{n:Nat}{xs ys Z Y:List V}(a:aP (TEq H n) xs ys)(b:aP (TEq H n) Z Y):aP (TEq H n) (xs++Z) (ys++Y):=by
 induction a with
 |nil=>exact b
 |cons h _ W=>exact .cons h W
theorem jV{H:Hp}{n:Nat}{x:V}(h:sc0 x):TEq H n x x:=by
 cases n with
 |zero=>exact⟨h,rfl⟩
 |succ n=>exact .inl ⟨h,rfl⟩
theorem vP{H:Hp}{n:Nat}{a b:aa}{h:Ev}(ha:H a=some (B2 h))(hb:H b=some (B2 h)):TEq H (n+1) (.ref a) (.ref b):=
 vN ha hb fun x hx=>by
  simp only[ar,aK,or_false]at hx
  rcases hx with rfl|rfl|rfl|rfl<;>trivial
theorem OK{H:Hp}{n:Nat}{v W:V}{e:Ev}(h:hZ H v e)(h':hZ H W e):TEq H (n+2) v W:=by
 obtain⟨t,k,rfl,h1,h2⟩:=h;obtain⟨t',U,rfl,Z,Y⟩:=h';exact .inr (.inr {t,t',_,_,rfl,rfl,h1,Z,.cons (vP h2 Y) (.cons (jV trivial) (.cons (jV trivial) (.cons (jV trivial) (.cons (jV trivial) .nil))))})
theorem AX{H:Hp}{n:Nat}{a b:aa}{ns:List Int}(ha:H a=some (.lst (ns.map V.int)))(hb:H b=some (.lst (ns.map V.int))):TEq H (n+1) (.ref a) (.ref b):=
 .inr (.inl ⟨a,b,_,_,rfl,rfl,ha,hb,by
  clear ha hb
  induction ns with
  |nil=>exact .nil
  |cons x xs Z=>exact .cons (jV trivial) Z⟩)
theorem IG{H:Hp}{n:Nat}:∀{qs:List (Str×List Int)} {qa Y:List (Str×aa)} {U Z:List V},gE H qa qs->gE H Y qs->aP (AJ H) U qa->aP (AJ H) Z Y->aP (TEq H (n+2)) U Z
 | [],qa,Y,U,Z,e,g,a,c=>by
  cases e
  cases g
  cases a
  cases c;exact .nil
 |q::qs,qa,Y,U,Z,e,g,a,c=>by
  cases e with
  |cons e f=>
  cases g with
  |cons g h=>
  cases a with
  |cons a b=>
  cases c with
  |cons c d=>
  obtain⟨t,rfl,h1⟩:=a;obtain⟨t',rfl,W⟩:=c;obtain⟨e1,O⟩:=e;obtain⟨g1,M⟩:=g;rw[e1]at h1;rw[g1]at W;exact .cons (.inr (.inr {t,t',_,_,rfl,rfl,h1,W,.cons (jV trivial) (.cons (AX O M) .nil)})) (IG f h b d)
theorem K8{H:Hp}{n:Nat}{v v':V}{q:Rec}(h:RcIn H v q)(h':RcIn H v' q):TEq H (n+4) v v':=by
 obtain⟨rc,k,wl,od,cp,U,vs,qa,rfl,h1,h2,h3,h4,h5,h6,h7,h8⟩:=h;obtain⟨cd,k',ce,cr,Z,Y,bW,ca,rfl,M,W,ci,I,O,J,g,D⟩:=h';have w1:aP (TEq H (n+2)) cp Z:=xn (R:=zt H) (S:=zt H) (fun x y a hx hy=>by
  obtain⟨t,rfl,z⟩:=hx;obtain⟨t',rfl,z'⟩:=hy;exact vN z z' fun x hx=>by
   simp only[ar,aK,or_false]at hx
   rcases hx with rfl|rfl<;>trivial) h4 I
 have w2:aP (TEq H (n+2)) U Y:=IG h6 J h5 O;refine .inr (.inr {rc,cd,_,_,rfl,rfl,h1,M,.cons (vP h2 W) (.cons (jV trivial) (.cons (jV trivial) (.cons (jV trivial) (.cons (jV trivial) (.cons ?_ (.cons ?_ .nil))))))})
 ·exact .inr (.inl {wl,ce,_,_,rfl,rfl,h3,ci,K6 w1 w2})
 ·exact .inr (.inl {od,cr,_,_,rfl,rfl,h7,g,xn (R:=hZ H) (S:=hZ H) (fun x y a hx hy=>OK hx hy) h8 D})
theorem IH{H:Hp}{a b:aa}{xs ys:List V}{rs:List Rec}(ha:H a=some (.lst xs))(hb:H b=some (.lst ys))(Y:aP (RcIn H) xs rs)(Z:aP (RcIn H) ys rs):TEq H 5 (.ref a) (.ref b):=
 .inr (.inl {a,b,xs,ys,rfl,rfl,ha,hb,xn (R:=RcIn H) (S:=RcIn H) (fun x y q hx hy=>K8 hx hy) Y Z})
end My
namespace L2
open PySem PySem.Spec PyProof.Rows
section
variable{X:Cx}
variable{CX:CXT}{k:Nat}{f C:aa}{fd:bR}{ps:List Str}{sp:Sp}{E:St->XK}{m:Str}{apos pos:Pos}{o e:cN}{es:List cN}{ta:TE}{t:TA}
def OL(C:aa)(m:Str)(sp:Sp)(E:St->XK)(ta:TE)(t:TA):TE:=fun σ H Q=>ta σ H fun x H1=>∃a dx fs,x=.ref a/\H1 a=some (.ins C dx fs)/\fs.lookup m=none /\
 t σ H1 fun vs H2=>sp (x::vs) H2 Q (E σ)
theorem II{pl:Sem Bool}(g:PE X o ta)(c:Cls X.K C)(hm:xw X.K C m f)(F:bA X.prog X.w X.K X.mg X.base CX k f fd ps sp)(hr:cQ k X.A)(hb:Binds X.K fd ps [])(hx:y9 CX X E)(ha:PA X (e::es) t)
  (hst:cu (e::es) X.env=(false,fg e X.env)::cu es X.env:=by rfl) (W:(iN pos (cu es X.env)).any (·.1)=false:=by rfl)
  (ht:fg (.Call (.Attribute o m apos) (e::es) [] pos) X.env=(do
   let J <- fg o X.env
   uC apos.atName
   let (f,first) <- pZ [J] (lG J m pl)
   xx pos f first (iN pos (cu (e::es) X.env)) (mj pos (iM [] X.env))):=by rfl) :
  PE X (.Call (.Attribute o m apos) (e::es) [] pos) (OL C m sp E ta t):=by
 intro pins s σ H Q I h;refine iG (pl:=pl) (thn (g pins s σ H _ I h) fun u z ⟨x,H1,U,D,a,dx,fs,ex,ea,l,q⟩=>?_) ht;subst ex;obtain rfl:u=Value.ref a:=D;refine oP U ea c hm l ?_;refine jq (first:=[.ref a]) (h₀:=X.base) I.ok.mod.kin hm.kp (thn (ha pos pins z σ H1 _ U q) fun us s2 ⟨vs,H2,Z,r,O⟩=>{Z.kIn,?_}) hst W;have M:cX (V.ref a::vs) (Value.ref a::us):=.cons rfl r;have hl:(Value.ref a::us).length=ps.length:=by
  rw[<- M.length];exact F.len _ _ _ _ O
 have Y:=hb s2 (Value.ref a::us) Z.kIn (by rw[cv];exact hl);rw[cv]at Y;refine wj (kK (F.run X.A X.stack s2 H2 {Value.ref a::us,[]} (Value.ref a::us) (V.ref a::vs) Q (E σ) hr Z.env0 Y M O) fun r s' hq=>?_)
 cases r with
 |error e=>exact hx pins σ H2 s2 e s' Z hq
 |ok fl=>
  cases fl with
  |ret u=>exact Z.after hq
  |next=>exact cI hq
  |brk=>exact cI hq
  |cont=>exact cI hq
end
end L2
namespace My
open PySem L2
theorem K9{H G:Hp}{a:aa}{xs:List V}(h:Hid {[],H} G a=some (.lst xs))(s:aV H G):H a=none:=by
 cases z:H a with
 |none=>rfl
 |some o=>
  refine absurd (.inr {o,z,fun ys y=>?_}:a∈({[],H}:Ex)) (fb h);have:=dD _ _ h;rw[s _ _ z,y]at this
  cases this
section
variable{P:aN}{w:bL}{K:ae}{mg:Str->Option af}{base:cz}{f fFk fG CK CC CM CS CN CL:aa}{fd fdFk fdG:bR}
seal PS PSs PE PA PT PW PI PG PGs PC
abbrev nFq:List Str:=["_law_keeper","_law_number","_law_sign_here","_law_most","_law_told"]
abbrev pFq:List Str:=["_law_keeper","_law_number","_law_sign_here","_law_most"]
theorem IJ:bM nFq pFq (aM kX):={}
inductive Mz(CK CC CM CS:aa)(vs:List V)(H:Hp)(Q:VK)(_e:XK):Prop where
 |mk(Ms:List MD)(es:List Ev)(k m sl kd:aa)(ev n most:Int)(kvs:List (Key×V))(sv:V)(x:Ev)(_:vs=[.ref k,.int n,sv,.int most])(_:E2 CK CC CM CS Ms es H k m sl kd ev kvs)(_:tj H sv x)(_:wV Ms.length x)(_:most<=1000)(_:(n∉iR kvs->Q (.str "mark") H))(_:(∀G,n∈iR kvs->aV H G->Q (.str "late") G))(_:∀(G:Hp) (t rl:aa) (en:V) (rvs:List V),n∈iR kvs->aV H G->G t=some (.tup [.ref rl,en])->G rl=some (.lst rvs)->H rl=none->Q (.ref t) G):Mz CK CC CM CS vs H Q _e
def spFq(CK CC CM CS:aa):Sp:=fun vs H Q Z=>Mz CK CC CM CS vs H Q Z
theorem ok_fq(D:Df K mg "_law_forked" kX pFq f fd)(W:Df K mg "fork" wL pFk fFk fdFk)(U:bA P w K mg base (CXo P w) 40 fFk fdFk pFk (spFk CK CC CM CS CN CL))(mN:mg "NoMark"=some (.ref CN))(mL:mg "TooLate"=some (.ref CL))(xN:cm K (.ref CN) (.ref CN)=some true)(xL:cm K (.ref CL) (.ref CL)=some true)(M:cm K (.ref CL) (.ref CN)=some false):bA P w K mg base CX0 41 f fd pFq (spFq CK CC CM CS):=by
 refine D.F.ok IJ (fun vs H Q E h=>?_) (fun J A outer s H vs Q E hr h=>?_)
 ·obtain⟨Ms,es,k,m,sl,kd,ev,n,Z,kvs,sv,x,rfl,_⟩:=h;rfl
 obtain⟨Ms,es,k,m,sl,kd,ev,n,Z,kvs,sv,x,rfl,hk,hs,hx,hm,I,late,q⟩:=h;have V:cQ 40 _:=hr;refine{_,ai (bh (i:=4) IJ.nd rfl (Or.inl rfl) cb) (ai (FX (fun C σ G=>((C=CN/\n∉iR kvs/\G=H)\/(C=CL/\n∈iR kvs/\aV H G))/\σ=[some (.ref k),some (.int n),some sv,some (.int Z),some (.str "mark")]) (fun pins=>ay (bh (i:=4) IJ.nd rfl (Or.inl rfl) (Aj U V (by rfl) W.m W.F.kp W.b rT (bE (pv 0) (bE (pv 1) (bE (pv 2) (bE (pv 3) aj))))))) (wD (by rfl) mN (fun g=>ay (bh (i:=4) IJ.nd rfl (Or.inl rfl) cb)) (wD (by rfl) mL (fun g=>ay (bh (i:=4) IJ.nd rfl (Or.inl rfl) cb)) y7))) (ay (bN (pv 4)))),?_};refine cg (cL (aY ?_));dsimp only;refine cg {?_,?_}
 ·refine cL {_,rfl,_,rfl,_,rfl,_,rfl,Ms,es,k,m,sl,kd,ev,n,Z,kvs,sv,x,rfl,hk,hs,hx,hm,(fun Y=>{CN,rfl,.inl ⟨rfl,Y,rfl⟩,rfl}),(fun nn r G a1 a2 a3 a4 a5=>{CL,rfl,.inr ⟨rfl,a1,a5⟩,rfl}),fun G t rl en O nn i r e a1 a2 a3 a4 a5 a6 a7 a8 a9 a10=>aY ?_};dsimp only;exact eS {_,rfl,q G t rl en O a1 a6 (dD _ _ a7) (dD _ _ a8) (K9 a8 a6)}
 ·rintro C z H' _ ⟨⟨rfl,Y,rfl⟩|⟨rfl,a1,a5⟩,rfl⟩
  ·refine .inl {xN,cL (aY ?_)};dsimp only;exact eS {_,rfl,I Y}
  ·refine .inr {M,.inl {xL,cL (aY ?_)}};dsimp only;exact eS {_,rfl,late H' a1 a5}
abbrev nGo:List Str:=["_law_keeper","_law_number","_law_most","_law_told"]
abbrev pGo:List Str:=["_law_keeper","_law_number","_law_most"]
theorem La:bM nGo pGo (aM pf):={}
inductive MA(CK CC CM CS:aa)(vs:List V)(H:Hp)(Q:VK)(_e:XK):Prop where
 |mk(Ms:List MD)(es:List Ev)(k m sl kd:aa)(ev n most:Int)(kvs:List (Key×V))(_:vs=[.ref k,.int n,.int most])(_:E2 CK CC CM CS Ms es H k m sl kd ev kvs)(_:most<=1000)(_:(n∉iR kvs->Q .non H))(_:∀(G:Hp) (t rl:aa) (en:V) (rvs:List V),n∈iR kvs->aV H G->G t=some (.tup [.ref rl,en])->G rl=some (.lst rvs)->H rl=none->Q (.ref t) G):MA CK CC CM CS vs H Q _e
def spGo(CK CC CM CS:aa):Sp:=fun vs H Q Z=>MA CK CC CM CS vs H Q Z
theorem ok_go(D:Df K mg "_law_gone" pf pGo f fd)(U:Mt K CK "go_on" "Keeper.go_on" hV pKg fG fdG)(M:bA P w K mg base (CXo P w) 40 fG fdG pKg (OE CK CC CM CS CN))(T:KeT K mg CK)(mN:mg "NoMark"=some (.ref CN))(xN:cm K (.ref CN) (.ref CN)=some true):bA P w K mg base CX0 41 f fd pGo (spGo CK CC CM CS):=by
 refine D.F.ok La (fun vs H Q E h=>?_) (fun O A outer s H vs Q E hr h=>?_)
 ·obtain⟨Ms,es,k,m,sl,kd,ev,n,Z,kvs,rfl,_⟩:=h;rfl
 obtain⟨Ms,es,k,m,sl,kd,ev,n,Z,kvs,rfl,hk,hm,J,q⟩:=h;have W:cQ 40 _:=hr;refine{_,ai (bh (i:=3) La.nd rfl (Or.inl rfl) tQ) (ai (FX (fun C σ G=>C=CN/\n∉iR kvs/\G=H/\σ=[some (.ref k),some (.int n),some (.int Z),some .non]) (fun pins=>ay (bh (i:=3) La.nd rfl (Or.inl rfl) (II (pv 0) T.cl U.m M W U.b rT (bE (pv 1) (bE (pv 2) aj))))) (wD (by rfl) mN (fun z=>ay (bh (i:=3) La.nd rfl (Or.inl rfl) tQ)) y7)) (ay (bN (pv 3)))),?_};obtain⟨dx,ob⟩:=hk.ob;refine cg (cL (aY ?_));dsimp only;refine cg {?_,?_}
 ·refine cL {_,rfl,k,dx,_,rfl,ob,uV _ _ _ _ (by decide +kernel),_,rfl,_,rfl,Ms,es,k,m,sl,kd,ev,n,Z,kvs,rfl,hk,hm,fun Y=>⟨CN,rfl,rfl,Y,rfl,rfl⟩,fun G t rl en V nn i r e a1 a2 a3 a4 a5 a6 a7 a8 a9 a10=>aY ?_};dsimp only;exact eS {_,rfl,q G t rl en V a1 a5 a6 a7 a8}
 ·rintro C I H' _ ⟨rfl,Y,rfl,rfl⟩;refine .inl {xN,cL (aY ?_)};dsimp only;exact eS {_,rfl,J Y}
end
noncomputable def Vw(l:List aa)(G:Hp):Hp:=Hid {l,fun _=>none} G
section
variable{l:List aa}{G H:Hp}{a k:aa}{o:HO}
theorem OM(h:a∈({l,fun _=>none}:Ex)):a∈l:=h.elim id fun⟨_,e,_⟩=>by cases e
theorem jJ(n:a∉l)(h:G a=some o):Vw l G a=some o:=by
 unfold Vw;rw[dS fun z=>n (OM z)];exact h
theorem rQ(h:Vw l G a=some o):a∉l/\G a=some o:={fun z=>fb h (.inl z),dD _ _ h}
theorem pS:aV (Vw l G) G:=fun _ _ e=>(rQ e).2
theorem DQ(s:aV H G):aV (Vw l H) (Vw l G):=fun _ _ e=>jJ (rQ e).1 (s _ _ (rQ e).2)
theorem uA(b:But k H G)(m:k∈l):aV (Vw l H) (Vw l G):=fun _ _ e=>jJ (rQ e).1 (b _ _ (rQ e).2 fun z=>(rQ e).1 (by rw[z];exact m))
theorem MH(m:k∈l):aV (Vw l G) (Wp k G):=fun _ _ e=>jH (rQ e).2 fun z=>(rQ e).1 (by rw[z];exact m)
theorem ON{ex:Ex}(h:∀a∈l,a∈ex\/G a=none):aV (Hid ex G) (Vw l G):=fun a o e=>jJ (fun z=>(h a z).elim (fb e) fun n=>by
 have:=dD _ _ e;rw[n]at this
 cases this) (dD _ _ e)
end
end My
namespace L2
open PySem PySem.Spec PyProof.Rows
theorem passO{X:Cx}:lH (CXo X.prog X.w) X E0:=fun pins σ H s e s' I h=>by
 obtain⟨Z,C,H',B,_,z,_⟩:=h;exact z.elim
end L2
namespace My
open PySem L2
theorem tJ{n:Int}{ns:List Int}:inV (.int n) (ns.map V.int)=decide (n∈ns):=by
 unfold inV;rw[List.any_map]
 induction ns with
 |nil=>rfl
 |cons a ns Y=>
  rw[kN,Y];show (eqV (.int a) (.int n)||_)=_
  by_cases c:a=n
  ·subst c;simp[eqV]
  ·have Z:¬n=a:=fun z=>c z.symm;simp[eqV,c,Z]
theorem oJ(ns:List Int):(ns.map V.int).all sO=true:=by
 rw[List.all_map];exact List.all_eq_true.mpr fun x _=>rfl
theorem sorted_ints{Y Z:List Int}(h1:Y.Pairwise (·<=·))(h2:Z.Pairwise (·<=·))(h:Y.Perm Z):Y=Z:=List.Perm.eq_of_pairwise (fun _ _ _ _ a b=>Int.le_antisymm a b) h1 h2 h
structure Jn(CK CC CM CS:aa)(Ms:List MD)(es:List Ev)(l:List aa)(G:Hp)(k dx m sl r sg m0:aa)(ev:Int)(kvs:List (Key×V))(ns:List Int):Prop where
 ke:∃kd,G k=some (.ins CK dx (jI (.ref m) (.ref sl) (.int ev) (.ref kd)))/\Vw l G kd=some (.dK kvs)
 rn:Rn CM Ms es (Vw l G) m sl
 kp:Kpt CC CS m Ms es (Vw l G) kvs
 rw_:∃ml,G r=some (.lst [.ref sg,.int ev,.ref ml])/\Vw l G ml=some (.lst (ns.map V.int))
 pm:ns.Perm (iR kvs)
 so:ns.Pairwise (·<=·)
 r0:Rn CM Ms es (Vw l G) m0 sg
 bd:∀n∈ns,n<=40
section
variable{CK CC CM CS:aa}{Ms:List MD}{es:List Ev}{l:List aa}{G G':Hp}{k dx m sl r sg m0 c:aa}{ev:Int}{kvs:List (Key×V)}{ns:List Int}
theorem Jn.of(h:Jn CK CC CM CS Ms es l G k dx m sl r sg m0 ev kvs ns)(s:aV (Vw l G) (Vw l G'))(hk:∀o,G k=some o->G' k=some o)(hr:∀o,G r=some o->G' r=some o):Jn CK CC CM CS Ms es l G' k dx m sl r sg m0 ev kvs ns:=by
 obtain⟨kd,h1,h2⟩:=h.ke;obtain⟨Y,W,Z⟩:=h.rw_;exact{{kd,hk _ h1,s _ _ h2},h.rn.same s,h.kp.same s,{Y,hr _ W,s _ _ Z},h.pm,h.so,h.r0.same s,h.bd}
theorem Jn.same(h:Jn CK CC CM CS Ms es l G k dx m sl r sg m0 ev kvs ns)(s:aV G G'):Jn CK CC CM CS Ms es l G' k dx m sl r sg m0 ev kvs ns:=h.of (DQ s) (s _) (s _)
theorem Jn.but(h:Jn CK CC CM CS Ms es l G k dx m sl r sg m0 ev kvs ns)(b:But c G G')(mem:c∈l)(nk:c≠k)(nr:c≠r):Jn CK CC CM CS Ms es l G' k dx m sl r sg m0 ev kvs ns:=h.of (uA b mem) (fun o e=>b _ _ e nk.symm) (fun o e=>b _ _ e nr.symm)
theorem Jn.in_(h:Jn CK CC CM CS Ms es l G k dx m sl r sg m0 ev kvs ns):∃kd,E2 CK CC CM CS Ms es G k m sl kd ev kvs:=by
 obtain⟨kd,h1,h2⟩:=h.ke;exact{kd,⟨dx,h1⟩,h.rn.same pS,pS _ _ h2,h.kp.same pS}
theorem Jn.few(h:Jn CK CC CM CS Ms es l G k dx m sl r sg m0 ev kvs ns):(iR kvs).length<64/\ns.length<=50:=by
 have:=h.kp.few;have e:=h.pm.length_eq;unfold iR at e |-;rw[ao]at e |-;omega
end
theorem kT.same{Ms:List MD}{r:RS}{Z:Int}{i Y:Nat}{e W:End}(a:kT Ms r Z i e)(b:kT Ms r Z Y W):i=Y/\e=W:=by
 have V:i=Y:=by
  rcases Nat.lt_trichotomy i Y with z|z|z
  ·have:=(b.1 i z).2;rw[a.2.1]at this
   cases this
  ·exact z
  ·have:=(a.1 Y z).2;rw[b.2.1]at this
   cases this
 subst V;have:=a.2.1.symm.trans b.2.1
 cases this;exact⟨rfl,rfl⟩
theorem yF{xs:List V}{k:Nat}(h:k<=xs.length):rD xs (some (k:Int)) none=xs.drop k:=by
 unfold rD;rw[HT.sIx_nat,HT.sIx_none,Nat.min_eq_left h,A6 (by rw[je];exact aD _)]
theorem pr_tk{Z Y:Type}{F:Z->Y->Prop}:∀{xs:List Z} {ys:List Y} (k:Nat),aP F xs ys->aP F (xs.take k) (ys.take k)
 |_,_,0,_=>.nil
 |_,_,_+1,.nil=>.nil
 |_,_,k+1,.cons a b=>.cons a (pr_tk k b)
theorem DV{Z Y:Type}{F:Z->Y->Prop}:∀{xs:List Z} {ys:List Y} (k:Nat),aP F xs ys->aP F (xs.drop k) (ys.drop k)
 |_,_,0,h=>h
 |_,_,_+1,.nil=>.nil
 |_,_,k+1,.cons a b=>DV k b
theorem IK{H:Hp}{n:Nat}{v W:V}:∀{e:End},nF H v e->nF H W e->TEq H (n+3) v W
 |.empty,⟨t,e1,h1⟩,⟨t',Z,h2⟩=>by
  subst e1 Z;exact vN h1 h2 fun x hx=>by
   rw[aE.mp hx];exact trivial
 |.cut,⟨t,e1,h1⟩,⟨t',Z,h2⟩=>by
  subst e1 Z;exact vN h1 h2 fun x hx=>by
   rw[aE.mp hx];exact trivial
 |.stp (.fin _),⟨t,k,e1,h1,g1⟩,⟨t',U,Z,h2,Y⟩=>by
  subst e1 Z;exact .inr (.inr {t,t',_,_,rfl,rfl,h1,h2,.cons (jV trivial) (.cons (vP g1 Y) .nil)})
 |.stp (.flt _ _),⟨t,k,e1,h1,g1⟩,⟨t',U,Z,h2,Y⟩=>by
  subst e1 Z;exact .inr (.inr {t,t',_,_,rfl,rfl,h1,h2,.cons (jV trivial) (.cons (jV trivial) (.cons (vP g1 Y) .nil))})
theorem E7{H:Hp}{t t' rl Y:aa}{en Z:V}{xs ys:List V}{rs:List Rec}{e:End}(h1:H t=some (.tup [.ref rl,en]))(h2:H t'=some (.tup [.ref Y,Z]))(g1:H rl=some (.lst xs))(O:H Y=some (.lst ys))(U:aP (RcIn H) xs rs)(p2:aP (RcIn H) ys rs)(e1:nF H en e)(W:nF H Z e):TEq H 6 (.ref t) (.ref t'):=
 .inr (.inr {t,t',_,_,rfl,rfl,h1,h2,.cons (IH g1 O U p2) (.cons (IK (n:=2) e1 W) .nil)})
section
variable{P:aN}{w:bL}{K:ae}{mg:Str->Option af}{base:cz}{f fD fPl fKm fKg CK CC CM CS CB CN:aa}{fd fdD fdPl fdKm fdKg:bR}
seal PS PSs PE PA PT PW PI PG PGs PC
abbrev nGd:List Str:=["_law_purse_here","_law_keeper","_law_row","_law_model","_law_number","_law_most","_law_due"]
abbrev pGd:List Str:=["_law_purse_here","_law_keeper","_law_row","_law_model"]
theorem Lb:bM nGd pGd (aM pj):={}
inductive MI(CK CC CM CS:aa)(vs:List V)(H:Hp)(Q:VK)(_e:XK):Prop where
 |mk(Ms:List MD)(es:List Ev)(l:List aa)(p k dx m sl r sg m0:aa)(ev:Int)(kvs:List (Key×V))(ns:List Int)(_:vs=[.ref p,.ref k,.ref r,.ref m0])(_:dE H p)(_:Jn CK CC CM CS Ms es l H k dx m sl r sg m0 ev kvs ns)(_:p∈l)(_:p≠k)(_:p≠r)(_:∀G,dE G p->But p H G->Q (.bl true) G):MI CK CC CM CS vs H Q _e
def spGd(CK CC CM CS:aa):Sp:=fun vs H Q Z=>MI CK CC CM CS vs H Q Z
theorem ok_gd(D:Df K mg "_law_good" pj pGd f fd)(DD:Df K mg "_law_draw" dY pD fD fdD)(hR:Df K mg "plain" vH ["model","signs","most"] fPl fdPl)(gM:bA P w K mg base CX0 40 fPl fdPl ["model","signs","most"] (LZ CM CS CB))(hX:Mt K CK "marks" "Keeper.marks" hU pKm fKm fdKm)(MS:mg "sorted"=none)(MG:Mt K CK "go_on" "Keeper.go_on" hV pKg fKg fdKg)(GG:bA P w K mg base (CXo P w) 40 fKg fdKg pKg (OE CK CC CM CS CN))(TK:KeT K mg CK)(TB:BkT K mg CB)(B:Bl mg):bA P w K mg base CX0 41 f fd pGd (spGd CK CC CM CS):=by
 have GD:bA P w K mg base CX0 1 fD fdD pD jt:=jm DD;have hB:bA P w K mg base CX0 1 fKm fdKm pKm (OC CK):=Ml hX.F TK MS;refine D.F.ok Lb (fun vs H Q E h=>?_) (fun ey A outer s H vs Q E hr h=>?_)
 ·obtain⟨Ms,es,l,p,k,dx,m,sl,r,sg,m0,ev,kvs,ns,rfl,_⟩:=h;rfl
 obtain⟨Ms,es,l,p,k,dx,m,sl,r,sg,m0,ev,kvs,ns,rfl,pu,J,pl,pk,pr,q⟩:=h;have hT:=EB hr;have r1:cQ 1 _:=hr.mono (by decide);have hK:cQ 40 _:=hr;refine⟨_,ai (cK (bO (Nv hT) (jh (pv 1) TK.cl hX.m hB r1 hX.b .nil bC) (bP cJ (pv 2) aw (fun _ _=>rfl)) (bX _)) (ay (bN lD)) bS)
  (ai (cK (bO (Il hT) (bP cJ (pv 2) aw (fun _ _=>rfl)) (eA aj) (bX _)) (ay (bN lD)) bS)
  (ai (bh (i:=4) Lb.nd rfl (Or.inl rfl) (bP cJ (bP cJ (pv 2) aw (fun _ _=>rfl)) (aL GD r1 (by rfl) DD.m DD.F.kp DD.b .nil bC (bE (pv 0) (jc (cS (eX K (by rfl)) (by rfl) B.len cA (l9 (bP cJ (pv 2) aw (fun _ _=>rfl)) aj)) aj))) (fun _ _=>rfl)))
  (ai (bh (i:=5) Lb.nd rfl (Or.inl rfl) (aL GD r1 (by rfl) DD.m DD.F.kp DD.b .nil bC (bE (pv 0) (dB aw aj))))
  (ai (bh (i:=6) Lb.nd rfl (Or.inl rfl) (aL gM hK (by rfl) hR.m hR.F.kp hR.b .nil bC (bE (pv 3) (l9 (bP cJ (pv 2) aw (fun _ _=>rfl)) (qU (cV gP (pv 4) (pv 5)) aj)))))
  (ay (bN (mK (Nu hT) (gf (pv 1) TK.cl MG.m GG hK MG.b .nil passO (bE (pv 4) (bE (pv 5) aj))) (eD (l9 (sN vt (eg K (by rfl) (pv 6) (by rfl)) (vp (pv 4)) vn) (au (eg K (by rfl) (pv 6) (by rfl)) aj))) (bX _)))))))),?_⟩
 have big:=dW;have keys:=J.kp.keys;have few:=J.few;obtain⟨kd,qk,qd⟩:=J.ke;obtain⟨ml,qr,qm⟩:=J.rw_;have qd:=pS _ _ qd;have gr:=(rQ qm).1;have qm:=pS _ _ qm;refine cg (fZ {_,rfl,k,dx,_,rfl,qk,uV _ _ _ _ (by decide +kernel),k,kd,dx,_,_,_,kvs,iR kvs,rfl,qk,qd,keys,few.1,fun l2 hQ hD hC hF=>?_});have e:=sorted_ints hF J.so (hC.trans J.pm.symm);subst e;have s2:=aF hD (.lst (hQ.map V.int));refine{_,rfl,r,_,2,.ref ml,rfl,rfl,SqL.of (s2 _ _ qr),rfl,1,by decide,AX (n:=0) ag (s2 _ _ qm),_,rfl,gb ?_};dsimp only[j6]
 -- none
 refine cg (fZ {_,rfl,r,_,2,.ref ml,rfl,rfl,SqL.of (s2 _ _ qr),rfl,bU _,fun l3 hA=>?_});have O:=s2.trans (aF hA (.lst []));refine{ml,l3,_,rfl,rfl,O _ _ qm,ag,_,rfl,?_};have J3:=J.same O;have I:=pu.same O;have U:=O _ _ qr;have t:=O _ _ qm;revert J3 I U t O;generalize upd (upd H l2 (.lst (hQ.map V.int))) l3 (.lst [])=G3;intro O J3 I U t
 cases hQ with
 |nil=>exact iH (eS (q _ I fun b o e _=>O _ _ e))
 |cons n0 nr=>
 refine gb ?_;dsimp only[j6];have len:0<(n0::nr).length:=mE _;revert len few;generalize n0::nr=ns at *;intro few len;refine cg (cL {_,rfl,r,_,2,.ref ml,rfl,rfl,SqL.of U,rfl,_,rfl,_,rfl,r,_,2,.ref ml,rfl,rfl,SqL.of U,rfl,?_});refine tE {ml,_,rfl,.inl (SqL.of t),tE {p,(ns.map V.int).length,rfl,I,?_,?_,fun a G4 a0 a1 hy b4=>?_}}
 ·rw[ao];omega
 ·rw[ao];omega
 rw[ao]at a1;have J4:=J3.but b4 pl pk pr;have fk:ml≠p:=fun z=>gr (z ▸ pl);have fy:=b4 _ _ t fk;obtain⟨j,rfl⟩:∃j:Nat,a=j:={a.toNat,by omega};have hj:j<ns.length:=by omega
 refine{ml,_,_,.int ns[j],rfl,rfl,SqL.of fy,ij (by rw[cC,aI hj];rfl),aY ?_};dsimp only;have hH:=J.bd _ (kH hj);have M:ns[j]∈iR kvs:=J.pm.mem_iff.mp (kH hj);generalize ns[j]=n at M hH;refine cg (cL {_,rfl,p,6,rfl,hy,by decide,by decide,fun mt G5 ha eL gt b5=>aY ?_});dsimp only;have J5:=J4.but b5 pl pk pr;have fx:=b4.trans b5;have Z:=J5.r0.same pS;obtain⟨hg,hE,gl⟩:=Z.sg;obtain⟨eH,ge,_⟩:=J5.rw_;obtain⟨nn,en,hn⟩:∃nn:Nat,n=nn/\nn<=900:=by
  unfold iR at M;obtain⟨x,hx,e⟩:=cB.mp M;obtain⟨nn,c,r',rfl,_⟩:=J.kp.at_ x hx;have e:(nn:Int)=n:=e;exact{nn,e.symm,by omega}
 subst en;refine cg (cL {_,rfl,_,rfl,r,_,0,.ref sg,rfl,rfl,SqL.of ge,rfl,_,rfl,_,rfl,_,_,rfl,rfl,?_});refine tE ?_;refine{Ms,m0,sg,hg,es,(nn:Int)+mt,rfl,Z.mo,Z.lm,hE,gl,Z.le,Z.ev,by omega,fun Gp b2 i2 e2 sp gq bk=>aY ?_};dsimp only;obtain⟨g,he,er,hS,Y,ew,g1,g2,g3,g4,_⟩:=bk.ex;obtain⟨hf,K5⟩:=(J5.same sp).in_;obtain⟨hP,gd⟩:=K5.ob;refine eS {_,rfl,k,hP,_,rfl,gd,uV _ _ _ _ (by decide +kernel),_,rfl,_,rfl,Ms,es,k,m,sl,hf,ev,nn,mt,kvs,rfl,K5,by omega,(fun z=>absurd M z),fun Gy t5 et ez eF W j5 r5 e5 _ fe hL gw hN fo ft fa hz fz=>?_};obtain rfl:W=nn:=by omega
 obtain⟨St,dr⟩:=hL.on gw ha;obtain⟨rfl,rfl⟩:=gq.same St;have l3:=aZ g3;have hG:W<=Y.length:=by
  rw[l3,rq];show W<=((itR Ms (eG Ms es) W).2++_).length;rw[aA,hL.l W (aD _)];omega
 have p3:=DV W g3;rw[dr]at p3;have hk:=(dD (ex:={[],G5}) (G:=Gp)).trans hN;refine{_,rfl,b2,CB,g,_,_,rfl,hk _ _ g1,TB.cl,TB.nR,bk_r _ _ _,_,rfl,_,rfl,he,Y,rfl,SqL.of (hk _ _ g2),fun l4 hI=>?_};rw[yF hG];have s4:=aF hI (.lst (Y.drop W));refine{_,rfl,b2,CB,g,_,_,rfl,s4 _ _ (hk _ _ g1),TB.cl,TB.nE,bk_e _ _ _,lt2,fun t4 hO=>?_};have s5:=aF hO (.tup [.ref l4,hS]);have q4:=s5 _ _ (jU hI (.lst (Y.drop W)));have q5:=jU hO (.tup [.ref l4,hS]);have sq:=s4.trans s5;revert q4 q5 sq;generalize upd (upd Gy l4 (.lst (Y.drop W))) t4 (.tup [.ref l4,hS])=Gq;intro q4 q5 sq;have sH:=hk.trans sq;have sF:=sp.trans (hN.trans sq);exact{6,by decide,E7 (sq _ _ fo) q5 (sq _ _ ft) q4 (Paired.mono (fun _ _ z=>z.same sq) hz) (Paired.mono (fun _ _ z=>z.same sH) p3) (fz.same sq) (g4.same sH),q _ (gt.same sF) fun b o e n=>sF _ _ (fx _ _ (O _ _ e) n)}
end
end My
namespace L2
open PySem PySem.Spec PyProof.Rows PySem.SeqAt
section
variable{P:aN}{w:bL}{H:Hp}{s:ak}
end
section
variable{X:Cx}
end
section
variable{X:Cx}
theorem OO(hu:X.A.units+50<eK):OpR X (cU .Eq) (fun x y H Q=>rEq x y H Q\/∃p xs b,x=.ref p/\y=.str b/\H p=some (.tup xs)/\Q (.bl false) H):=by
 intro pins s σ H x y v u Q I Z Y h
 rcases h with h|⟨p,xs,b,rfl,rfl,h1,q⟩
 ·exact eN pins s σ H x y v u Q I Z Y h
 cases Z;obtain⟨t,rfl⟩:=Y;have fin:EP X pins σ Q (.bool false) s:={.bl false,H,I,rfl,q};obtain⟨us,r1,i1⟩:=iO I.hok h1;exact (RcAt.tuple_str (A:=X.A) b t i1 (by omega)) X.prog X.w _ _ fin
end
end L2
namespace My
open PySem L2
theorem OP{kvs:List (Key×V)}{ev:Int}{q:Nat}(h:kvs.map (·.1)=pQ q ev):iR kvs=(gx (q+1)).map fun j:Nat=>((j*ev.toNat:Nat):Int):=by
 have e:iR kvs=(kvs.map (·.1)).map fun k=>match k with
   |.inl n=>n
   |.inr _=>0:=by
  rw[dI];rfl
 rw[e,h];unfold pQ;rw[dI];rfl
theorem IL{num:Int}:∀{kvs:List (Key×V)},(∀q∈kvs,∃(n:Nat) (c:aa),q=(Sum.inl (n:Int),V.ref c))->iR (kvs.filter (atL num))=(iR kvs).filter fun n=>decide (num<=n)
 | [],_=>rfl
 |a::kvs,h=>by
  obtain⟨n,c,rfl⟩:=h a aC;have Y:=IL (num:=num) fun q hq=>h q (ah _ hq);show iR (List.filter (atL num) ((Sum.inl (n:Int),V.ref c)::kvs))=List.filter _ ((n:Int)::iR kvs)
  by_cases Z:num<=(n:Int)
  ·rw[ie (show atL num (Sum.inl (n:Int),V.ref c)=true from decide_eq_true Z),ie (by exact decide_eq_true Z),<- Y];rfl
  ·rw[ig (show ¬atL num (Sum.inl (n:Int),V.ref c)=true from fun z=>Z (of_decide_eq_true z)),ig (by exact fun z=>Z (of_decide_eq_true z))];exact Y
theorem OQ{q:Nat}{ev:Int}(h:1<=ev):c5 0 ((q:Int)+1) ev=((q/ev.toNat+1:Nat):Int):=by
 unfold c5;rw[if_pos (by omega),if_pos (by omega),show (q:Int)+1-0-1=(q:Int) by omega]
 conv=>lhs;rw[show ev=((ev.toNat:Nat):Int) by omega]
 rw[<- Int.natCast_ediv];omega
theorem OR{kvs:List (Key×V)}{ev:Int}{L:Nat}(e1:1<=ev)(W:L<=40)(h:kvs.map (·.1)=pQ (L/ev.toNat) ev):((gx (L/ev.toNat+1)).map fun j:Nat=>0+(j:Int)*ev).Perm (iR kvs)/\((gx (L/ev.toNat+1)).map fun j:Nat=>0+(j:Int)*ev).Pairwise (·<=·)/\∀n∈(gx (L/ev.toNat+1)).map fun j:Nat=>0+(j:Int)*ev,n<=40:=by
 have e:∀j:Nat,0+(j:Int)*ev=((j*ev.toNat:Nat):Int):=fun j=>by
  rw[Int.natCast_mul,show ((ev.toNat:Nat):Int)=ev by omega];omega
 refine{?_,?_,fun n Y=>?_}
 ·rw[OP h,gC fun j _=>e j]
 ·rw[iQ];refine List.pairwise_lt_range.imp fun {a b} z=>?_;rw[e,e];exact Int.ofNat_le.mpr (lr _ (jR z))
 ·obtain⟨j,Z,rfl⟩:=cB.mp Y;have Z:=xU.mp Z;rw[e];have a1:j*ev.toNat<=L/ev.toNat*ev.toNat:=lr _ (by omega);have a2:=Nat.div_mul_le_self L ev.toNat;omega
theorem xo{K:ae}{n:Nat}{U:TE}{g:TG}{tc:L2.TT}{te:TE}{σ:St}{H:Hp}{Q:VK}(W:aa->List V->Hp->Prop)(hi:∀R:VK,(∀a xs H1,W a xs H1->R (.ref a) H1)->U σ H R)(hx:∀a xs H1,W a xs H1->SqL K H1 a xs)(Z:aa->List V->Hp->Nat->List V->Hp->Prop)(h0:∀a xs H1,W a xs H1->Z a xs H1 0 [] H1)
  (hl:∀a xs H1,W a xs H1->∀i ys G,i<=xs.length->Z a xs H1 i ys G->SqL K G a xs/\ys.length<aB)
  (hs:∀a xs H1,W a xs H1->∀i x ys G,xs[i]?=some x->Z a xs H1 i ys G->g x (cD n none++σ) G fun Y H2=>Y.drop n=σ/\tc Y H2 fun b O=>if b=true then te Y O fun y M=>Z a xs H1 (i+1) (ys++[y]) M else Z a xs H1 (i+1) ys O)
  (hd:∀a xs H1,W a xs H1->∀ys G,Z a xs H1 xs.length ys G->∀p,G p=none->Q (.ref p) (upd G p (.lst ys))):uM n (Fv K U) g tc te σ H Q:=
 hi _ fun a xs H1 p=>{a,rfl,{xs,hx a xs H1 p},t8 (Z a xs H1) (h0 a xs H1 p) (hl a xs H1 p) (hs a xs H1 p) (hd a xs H1 p)}
def Fr3(p k r:aa)(H G:Hp):Prop:=∀b o,H b=some o->b≠p->b≠k->b≠r->G b=some o
structure DdI(CK CC CM CS:aa)(Ms:List MD)(es:List Ev)(l:List aa)(p k dx m sl r sg m0:aa)(ev:Int)(H G:Hp):Prop where
 pu:dE G p
 jn:∃kvs ns,Jn CK CC CM CS Ms es l G k dx m sl r sg m0 ev kvs ns
 fr:Fr3 p k r H G
 lv:∀a∈l,∃o,G a=some o/\∀xs,o≠.tup xs
section
variable{CK CC CM CS:aa}{Ms:List MD}{es:List Ev}{l:List aa}{p k dx m sl r sg m0:aa}{ev:Int}{H G G':Hp}
theorem DdI.same(h:DdI CK CC CM CS Ms es l p k dx m sl r sg m0 ev H G)(s:aV G G'):DdI CK CC CM CS Ms es l p k dx m sl r sg m0 ev H G':=by
 obtain⟨kvs,ns,J⟩:=h.jn;exact⟨h.pu.same s,{kvs,ns,J.same s},fun b o e a1 a2 a3=>s _ _ (h.fr b o e a1 a2 a3),fun a ha=>by
  obtain⟨o,e,n⟩:=h.lv a ha;exact{o,s _ _ e,n}⟩
theorem DdI.draw(h:DdI CK CC CM CS Ms es l p k dx m sl r sg m0 ev H G)(pl:p∈l)(Z:p≠k)(W:p≠r)(pu:dE G' p)(b:But p G G'):DdI CK CC CM CS Ms es l p k dx m sl r sg m0 ev H G':=by
 obtain⟨kvs,ns,J⟩:=h.jn;exact⟨pu,{kvs,ns,J.but b pl Z W},fun Y o e a1 a2 a3=>b _ _ (h.fr Y o e a1 a2 a3) a1,fun a ha=>by
  by_cases c:a=p
  ·obtain⟨x,y,e⟩:=pu;rw[c];exact{_,e,fun xs z=>by cases z}
  ·obtain⟨o,e,n⟩:=h.lv a ha;exact{o,b _ _ e c,n}⟩
theorem DdI.anew{U I:Hp}{kd D:aa}{kvs Z:List (Key×V)}{ns Y:List Int}(h:DdI CK CC CM CS Ms es l p k dx m sl r sg m0 ev H G)(J:Jn CK CC CM CS Ms es l G k dx m sl r sg m0 ev kvs ns)(pk:p≠k)(pr:p≠r)(kr:k≠r)(kl:k∈l)(rl:r∈l)(b:But k G U)(hk:U k=some (.ins CK dx (jI (.ref m) (.ref sl) (.int ev) (.ref kd))))(hd:Vw l U kd=some (.dK Z))(kp:Kpt CC CS m Ms es (Vw l U) Z)(s:aV U I)(hm:Vw l I D=some (.lst (Y.map V.int)))(pm:Y.Perm (iR Z))(so:Y.Pairwise (·<=·))(bd:∀n∈Y,n<=40):DdI CK CC CM CS Ms es l p k dx m sl r sg m0 ev H (upd I r (.lst [.ref sg,.int ev,.ref D])):=by
 have M:=uA b kl;have t:=DQ (l:=l) s;have O:=uA (But.upd r I (.lst [.ref sg,.int ev,.ref D])) rl;have W:=t.trans O;obtain⟨x,y,e⟩:=h.pu;refine{{x,y,aS (s _ _ (b _ _ e pk)) pr},{Z,Y,{kd,aS (s _ _ hk) kr,W _ _ hd},J.rn.same (M.trans W),kp.same W,{D,ag,O _ _ hm},pm,so,J.r0.same (M.trans W),bd},fun b' o e a1 a2 a3=>aS (s _ _ (b _ _ (h.fr b' o e a1 a2 a3) a2)) a3,fun a ha=>?_}
 by_cases c:a=r
 ·rw[c];exact{_,ag,fun xs z=>by cases z}
 ·by_cases g:a=k
  ·rw[g];exact{_,aS (s _ _ hk) kr,fun xs z=>by cases z}
  ·obtain⟨o,e,n⟩:=h.lv a ha;exact{o,aS (s _ _ (b _ _ e g)) c,n}
end
def DdS(p k r m0:aa)(W Y nu:Int)(σ:St):Prop:=∃V Z,σ=[some (.ref p),some (.ref k),some (.ref r),some (.ref m0),some (.int W),some (.int Y),some (.int nu),V,Z]
section
variable{P:aN}{w:bL}{K:ae}{mg:Str->Option af}{base:cz}{f fD fSg fW fGo fFq fKm fKr fKt CK CC CM CS CB:aa}{fd fdD fdSg fdW fdGo fdFq fdKm fdKr fdKt:bR}
seal PS PSs PE PA PT PW PI PG PGs PC
abbrev nDq:List Str:=["_law_purse_here","_law_keeper","_law_row","_law_model","_law_many","_law_kind","_law_number","_law_count","_law_told"]
abbrev pDq:List Str:=["_law_purse_here","_law_keeper","_law_row","_law_model","_law_many"]
theorem E8:bM nDq pDq (aM iy):={}
theorem ndDq:((["_law_mark"]:List Str)++nDq).Nodup:=by decide +kernel
inductive MJ(CK CC CM CS:aa)(vs:List V)(H:Hp)(Q:VK)(_e:XK):Prop where
 |mk(Ms:List MD)(es:List Ev)(l:List aa)(p k dx m sl r sg m0:aa)(ev:Int)(_:vs=[.ref p,.ref k,.ref r,.ref m0,.int Ms.length])(_:DdI CK CC CM CS Ms es l p k dx m sl r sg m0 ev H H)(_:p∈l)(_:k∈l)(_:r∈l)(_:p≠k)(_:p≠r)(_:k≠r)(_:0<Ms.length)(_:Ms.length<1000)(_:1<=ev)(_:ev<=100)(_:∀G,DdI CK CC CM CS Ms es l p k dx m sl r sg m0 ev H G->Q (.bl true) G):MJ CK CC CM CS vs H Q _e
def spDq(CK CC CM CS:aa):Sp:=fun vs H Q Z=>MJ CK CC CM CS vs H Q Z
theorem ok_dq(D:Df K mg "_law_deed_done" iy pDq f fd)(DD:Df K mg "_law_draw" dY pD fD fdD)(DW:Df K mg "_law_worth" fX pW fW fdW)(hB:Df K mg "_law_sign" lV pSg fSg fdSg)(hj:Df K mg "_law_gone" pf pGo fGo fdGo)(ez:bA P w K mg base CX0 41 fGo fdGo pGo (spGo CK CC CM CS))(hz:Df K mg "_law_forked" kX pFq fFq fdFq)(fe:bA P w K mg base CX0 41 fFq fdFq pFq (spFq CK CC CM CS))(hA:Mt K CK "marks" "Keeper.marks" hU pKm fKm fdKm)(MS:mg "sorted"=none)(MR:Mt K CK "run" "Keeper.run" jD pKr fKr fdKr)(fo:bA P w K mg base CX0 40 fKr fdKr pKr (spKr CK CC CM CS CB))(hg:Mt K CK "cut" "Keeper.cut" jE pKt fKt fdKt)(TK:KeT K mg CK)(TB:BkT K mg CB)(B:Bl mg):bA P w K mg base CX0 42 f fd pDq (spDq CK CC CM CS):=by
 have GD:bA P w K mg base CX0 1 fD fdD pD jt:=jm DD;have gl:bA P w K mg base CX0 1 fKm fdKm pKm (OC CK):=Ml hA.F TK MS;have fk:bA P w K mg base CX0 1 fKt fdKt pKt (spKt CK CC CS):=ok_kt hg.F TK;have ew:bA P w K mg base CX0 3 fSg fdSg pSg Ox:=Me hB DD DW B;refine D.F.ok E8 (fun vs H Q E h=>?_) (fun ef A outer s H vs Q E hr h=>?_)
 ·obtain⟨Ms,es,l,p,k,dx,m,sl,r,sg,m0,ev,rfl,_⟩:=h;rfl
 obtain⟨Ms,es,l,p,k,dx,m,sl,r,sg,m0,ev,rfl,I0,pl,kl,rl,pk,pr,kr,m1,m2,e1,e2,q⟩:=h;have ge:=EB hr;have r1:cQ 1 _:=hr.mono (by decide);have r3:cQ 3 _:=hr.mono (by decide);have fa:cQ 40 _:=hr.mono (by decide);have gw:cQ 41 _:=hr;refine⟨_,ai (bh (i:=5) E8.nd rfl (Or.inl rfl) (aL GD r1 (by rfl) DD.m DD.F.kp DD.b .nil bC (bE (pv 0) (dB aw aj))))
  (ai (bh (i:=6) E8.nd rfl (Or.inr rfl) (aL GD r1 (by rfl) DD.m DD.F.kp DD.b .nil bC (bE (pv 0) (dB aw aj))))
  (ai (cK (bO eN (pv 5) aw (bX _)) (ai (bh (i:=7) E8.nd rfl (Or.inl rfl) (cS (eX K (by rfl)) (by rfl) B.len cA (au (eg K (by rfl) (gf (pv 1) TK.cl MR.m fo fa MR.b .nil bC (bE (pv 6) aj)) (by rfl)) aj)))
  (ay (qc (zK rfl (by rfl) B.range (by rfl) B.list boot_list (dB aw (qU (cV gP (pv 7) aw) (l9 (bP cJ (pv 2) aw (fun _ _=>rfl)) aj)))) (tR (pv 2) aw nV)))) bS)
  (ai (cK (bO eN (pv 5) aw (bX _)) (ai (d9 (gf (pv 1) TK.cl hg.m fk r1 hg.b .nil bC (bE (pv 6) aj)))
  (ay (qc (mP ["_law_mark"] (iI.open (NN:=nDq) (N:=nDq) (sc:=aM iy) rfl rfl (by decide +kernel) rfl (by decide +kernel) (by decide +kernel) rfl (by decide +kernel)) rfl (iU (bP cJ (pv 2) aw (fun _ _=>rfl))) (fun _ _ _ _=>dO (i:=0) ndDq rfl (Or.inl rfl)) (fun _ _ _ _=>JB (bO FB (pv 0) (pv 7) (bX _))) (fun _ _ _ _=>pv 0)) (tR (pv 2) aw nV)))) bS)
  (ai (cK (bO eN (pv 5) aw (bX _)) (ai (bh (i:=8) E8.nd rfl (Or.inl rfl) (aL ez gw (by rfl) hj.m hj.F.kp hj.b .nil bC (bE (pv 1) (bE (pv 6) (dB aw aj)))))
  (ai (cK (bO Cf (MY (Bb (pv 8))) (mK sP (pv 6) (bP cJ (pv 2) aw (fun _ _=>rfl)) (by rfl)) (bX _)) (ay (bN lD)) bS)
  (ay (cK (oK (vk (pv 8))) (ay (d9 (Bu bV yG yH yn (bP cF (pv 8) aw (fun _ _=>rfl))))) bS)))) bS)
  (ai (cK (bO eN (pv 5) aw (bX _)) (ai (bh (i:=8) E8.nd rfl (Or.inl rfl) (aL fe gw (by rfl) hz.m hz.F.kp hz.b .nil bC (bE (pv 1) (bE (pv 6) (jc (aL ew r3 (by rfl) hB.m hB.F.kp hB.b .nil bC (bE (pv 0) (bE (pv 4) aj))) (dB aw aj))))))
  (ai (cK (bO Cf (mK (OO ge) (pv 8) cb (bX _)) (mK sP (pv 6) (bP cJ (pv 2) aw (fun _ _=>rfl)) (by rfl)) (bX _)) (ay (bN lD)) bS)
  (ay (cK (p9 (cS kg (by rfl) B.isi qH (bE (pv 8) (bE (sE (v:=.ty "tuple") (by rfl) B.tuple boot_tuple rfl) aj)))) (ay (d9 (Bu bV yG yH yn (bP cF (pv 8) aw (fun _ _=>rfl))))) bS)))) bS)
  (ai (cK (bO eN (pv 5) aw (bX _)) (ay (d9 (nX bV cY cZ iC (jh (pv 1) TK.cl hA.m gl r1 hA.b .nil bC) (bE (pv 6) aj)))) bS)
  (ay (bN lD)))))))),?_⟩
 have big:=dW;refine cg (cL {_,rfl,p,5,rfl,I0.pu,by decide,by decide,fun kn G1 ec ei hy b1=>aY ?_});dsimp only;refine cg (cL {_,rfl,p,15,rfl,hy,by decide,by decide,fun nu G2 gM em gt b2=>aY ?_});dsimp only;have Y:=(I0.draw pl pk pr hy b1).draw pl pk pr gt b2;clear hy b1 gt b2 I0;refine rG (fun σ G=>DdS p k r m0 Ms.length kn nu σ/\DdI CK CC CM CS Ms es l p k dx m sl r sg m0 ev H G) ?_ ?_
 rotate_left
 ·intro N W;refine fZ {_,rfl,rfl,_,rfl,gi (fun c=>?_) (fun c=>W _ _ {{_,_,rfl},Y})};obtain⟨kvs,ns,J⟩:=Y.jn;obtain⟨kd,qk,qd⟩:=J.ke;obtain⟨U,qr,M⟩:=J.rw_;refine cg (cL {_,rfl,k,dx,_,rfl,qk,uV _ _ _ _ (by decide +kernel),_,rfl,?_});refine tE ?_;refine{Ms,es,k,dx,m,sl,_,ev,nu,rfl,qk,J.rn.same (MH kl),e1,e2,gM,by omega,fun G3 b gd fx eh en sv O he i e hS ee pR _ fy I qb fz et g ey kp=>?_};refine{b,CB,gd,_,_,rfl,qb,TB.cl,TB.nR,bk_r _ _ _,fx,O,rfl,.inl (SqL.of fz),aY ?_};dsimp only;have few:=yD J.rn.mo.ok hS gM;have lR:=aZ pR;have sz:=OQ (q:=O.length) e1;have hE:=I _ _ qr kr.symm;have eo:O.length/ev.toNat<=O.length:=Nat.div_le_self _ _;refine cL {_,rfl,_,_,rfl,rfl,_,rfl,r,_,1,.int ev,rfl,rfl,SqL.of hE,rfl,0,(O.length:Int)+1,ev,_,rfl,e1,by omega,(E6 e1 (by omega) (by omega) (by omega) (by omega) (by omega)).1,sz,by omega,fun l2 Z=>?_};have s3:=aF Z (.lst ((gx (O.length/ev.toNat+1)).map fun k:Nat=>V.int (0+k*ev)));refine{_,rfl,r,_,2,2,rfl,rfl,s3 _ _ hE,rfl,W _ _ {{_,_,rfl},?_}};have hv:aV (Hid {[],G2} G3) (Vw l G3):=ON fun a ha=>.inl (.inr (Y.lv a ha));have nl:l2∉l:=fun z=>by
   obtain⟨o,e,_⟩:=Y.lv _ z
   by_cases c:l2=k
   ·rw[c,g]at Z
    cases Z
   ·rw[I _ _ e c]at Z
    cases Z
  obtain⟨n1,n2,n3⟩:=OR e1 (by omega) fy;exact Y.anew J pk pr kr kl rl I g (hv _ _ ey) (kp.same hv) s3 (jJ nl (by rw[ag,dI];rfl)) n1 n2 n3
 clear Y;rintro _ G2 ⟨⟨u7,u8,rfl⟩,Y⟩;refine rG (fun σ G=>DdS p k r m0 Ms.length kn nu σ/\DdI CK CC CM CS Ms es l p k dx m sl r sg m0 ev H G) ?_ ?_
 rotate_left
 ·intro N W;refine fZ {_,rfl,rfl,_,rfl,gi (fun c=>?_) (fun c=>W _ _ {{_,_,rfl},Y})};obtain⟨kvs,ns,J⟩:=Y.jn;obtain⟨kd,qk,qd⟩:=J.ke;obtain⟨U,qr,M⟩:=J.rw_;refine cg {_,rfl,k,dx,_,rfl,qk,uV _ _ _ _ (by decide +kernel),_,rfl,?_};refine tE ?_;refine{Vw l G2,Ms,es,m,k,kd,dx,_,_,_,nu,kvs,rfl,qk,MH kl _ _ qd,J.kp,fun G3 ej he I g eF eH ek kp=>?_};dsimp only;have hE:=I _ _ qr kr.symm;have gr:=pS _ _ (uA I kl _ _ M);have fw:=J.few.2;refine cL (xo (fun a xs H1=>a=U/\xs=ns.map V.int/\H1=G3) (fun R hR=>{_,rfl,r,_,2,.ref U,rfl,rfl,SqL.of hE,rfl,hR _ _ _ ⟨rfl,rfl,rfl⟩}) ?_ (fun a xs H1 i ys G=>G=G3/\ys=((ns.take i).filter fun n=>decide (nu<=n)).map V.int) ?_ ?_ ?_ ?_)
  ·rintro _ _ _ ⟨rfl,rfl,rfl⟩;exact SqL.of gr
  ·rintro _ _ _ ⟨rfl,rfl,rfl⟩;exact⟨rfl,rfl⟩
  ·rintro _ _ _ ⟨rfl,rfl,rfl⟩ i ys G hi ⟨rfl,rfl⟩;refine{SqL.of gr,?_};rw[ao];have:=kC (fun n=>decide (nu<=n)) (ns.take i);rw[c9]at this;omega
  ·rintro _ _ _ ⟨rfl,rfl,rfl⟩ i x ys G hx ⟨rfl,rfl⟩;rw[cC]at hx;obtain⟨n,hn,rfl⟩:=iq.mp hx;have tk:ns.take (i+1)=ns.take i++[n]:=by
    rw[eR,hn];rfl
   refine aY {rfl,_,rfl,_,rfl,_,_,rfl,rfl,_,rfl,?_};rw[tk,mY]
   by_cases c:nu<=n
   ·rw[decide_eq_true c,ie (by exact decide_eq_true c)];refine iH {_,rfl,rfl,?_};rw[bT];rfl
   ·rw[decide_eq_false c,ig (by exact fun z=>c (of_decide_eq_true z))];refine gb {rfl,?_};rw[KZ,cv]
  ·rintro _ _ _ ⟨rfl,rfl,rfl⟩ ys G ⟨rfl,rfl⟩ l2 Z;rw[ao,dZ];have s3:=aF Z (.lst ((ns.filter fun n=>decide (nu<=n)).map V.int));refine{_,rfl,r,_,2,2,rfl,rfl,s3 _ _ hE,rfl,W _ _ {{_,_,rfl},?_}};have nl:∀{a:aa},G2 a=none->a∉l:=fun h z=>by
    obtain⟨o,e,_⟩:=Y.lv _ z;rw[e]at h
    cases h
   have ft:l2∉l:=fun z=>by
    obtain⟨o,e,_⟩:=Y.lv _ z
    by_cases c:l2=k
    ·rw[c,g]at Z
     cases Z
    ·rw[I _ _ e c]at Z
     cases Z
   refine Y.anew J pk pr kr kl rl I g (jJ (nl eH) eF) (kp.same (uA I kl)) s3 (jJ ft ag) ?_ (J.so.filter _) fun n hn=>J.bd _ (xp.mp hn).1;rw[ek,IL fun q hq=>by
    obtain⟨n,c,r',e,_⟩:=J.kp.at_ q hq;exact⟨n,c,e⟩]
   exact J.pm.filter _
 clear Y;rintro _ G2 ⟨⟨u7,u8,rfl⟩,Y⟩;refine rG (fun σ G=>DdS p k r m0 Ms.length kn nu σ/\DdI CK CC CM CS Ms es l p k dx m sl r sg m0 ev H G) ?_ ?_
 rotate_left
 ·intro N W;refine fZ {_,rfl,rfl,_,rfl,gi (fun c=>?_) (fun c=>W _ _ {{_,_,rfl},Y})};obtain⟨kvs,ns,J⟩:=Y.jn;obtain⟨kd,Ki⟩:=J.in_;obtain⟨U,qr,M⟩:=J.rw_;have M:=pS _ _ M;have mem:nu∈ns↔nu∈iR kvs:=J.pm.mem_iff;refine cg (cL {_,rfl,_,rfl,Ms,es,k,m,sl,kd,ev,nu,5,kvs,rfl,Ki,by decide,(fun hf=>aY ?_),fun Gt t hD en rv hC st ht hr nr=>aY ?_})
  ·dsimp only;refine cg (fZ {_,rfl,_,rfl,_,rfl,r,_,2,.ref U,rfl,rfl,SqL.of qr,rfl,U,_,rfl,.inl (SqL.of M),rfl,oJ _,?_});rw[tJ,decide_eq_false (fun z=>hf (mem.mp z))];refine{rfl,_,rfl,gb ?_};dsimp only[j6];exact fZ {_,rfl,_,rfl,gb (W _ _ {{_,_,rfl},Y})}
  ·dsimp only;refine cg (fZ {_,rfl,_,rfl,_,rfl,r,_,2,.ref U,rfl,rfl,SqL.of (st _ _ qr),rfl,U,_,rfl,.inl (SqL.of (st _ _ M)),rfl,oJ _,?_});rw[tJ,decide_eq_true (mem.mpr hC)];refine{rfl,_,rfl,gb ?_};dsimp only[j6];refine fZ {_,rfl,_,rfl,iH ?_};refine{_,rfl,t,_,0,.ref hD,rfl,rfl,SqT.of ht,rfl,.inl {rfl,_,SqL.of hr},hD,rv,rfl,rfl,hr,W _ _ {{_,_,rfl},Y.same (lY st nr _)}}
 clear Y;rintro _ G2 ⟨⟨u7,u8,rfl⟩,Y⟩;refine rG (fun σ G=>DdS p k r m0 Ms.length kn nu σ/\DdI CK CC CM CS Ms es l p k dx m sl r sg m0 ev H G) ?_ ?_
 rotate_left
 ·intro N W;refine fZ {_,rfl,rfl,_,rfl,gi (fun c=>?_) (fun c=>W _ _ {{_,_,rfl},Y})};obtain⟨kvs,ns,J⟩:=Y.jn;refine cg (cL {_,rfl,_,rfl,_,rfl,_,rfl,?_});refine tE {p,Ms.length,rfl,Y.pu,m1,m2,fun sv x G3 hs hx eL I=>?_};have I3:=Y.draw pl pk pr eL I;have J:=J.but I pl pk pr;obtain⟨kd,Ki⟩:=J.in_;obtain⟨U,qr,M⟩:=J.rw_;have M:=pS _ _ M;have mem:nu∈ns↔nu∈iR kvs:=J.pm.mem_iff;refine{Ms,es,k,m,sl,kd,ev,nu,5,kvs,sv,x,rfl,Ki,hs,hx,by decide,(fun hf=>aY ?_),(fun Gt hC st=>aY ?_),fun Gt t hD en rv hC st ht hr nr=>aY ?_}
  ·dsimp only;refine cg (fZ {_,rfl,.inl {rfl,_,rfl,_,rfl,r,_,2,.ref U,rfl,rfl,SqL.of qr,rfl,U,_,rfl,.inl (SqL.of M),rfl,oJ _,?_}});rw[tJ,decide_eq_false (fun z=>hf (mem.mp z))];refine{rfl,_,rfl,gb ?_};dsimp only[j6];exact fZ {_,rfl,_,"tuple",_,false,rfl,.str _,rfl,_,rfl,gb (W _ _ {{_,_,rfl},I3})}
  ·dsimp only;refine cg (fZ {_,rfl,.inl {rfl,_,rfl,_,rfl,r,_,2,.ref U,rfl,rfl,SqL.of (st _ _ qr),rfl,U,_,rfl,.inl (SqL.of (st _ _ M)),rfl,oJ _,?_}});rw[tJ,decide_eq_true (mem.mpr hC)];refine{rfl,_,rfl,gb ?_};dsimp only[j6];exact fZ {_,rfl,_,"tuple",_,false,rfl,.str _,rfl,_,rfl,gb (W _ _ {{_,_,rfl},I3.same st})}
  ·dsimp only;refine cg (fZ {_,rfl,.inr {t,_,_,rfl,rfl,ht,_,rfl,_,rfl,r,_,2,.ref U,rfl,rfl,SqL.of (st _ _ qr),rfl,U,_,rfl,.inl (SqL.of (st _ _ M)),rfl,oJ _,?_}});rw[tJ,decide_eq_true (mem.mpr hC)];refine{rfl,_,rfl,gb ?_};dsimp only[j6];refine fZ {_,rfl,_,"tuple",_,true,rfl,.tup ht,rfl,_,rfl,iH ?_};exact{_,rfl,t,_,0,.ref hD,rfl,rfl,SqT.of ht,rfl,.inl {rfl,_,SqL.of hr},hD,rv,rfl,rfl,hr,W _ _ {{_,_,rfl},I3.same (lY st nr _)}}
 clear Y;rintro _ G2 ⟨⟨u7,u8,rfl⟩,Y⟩;refine rG (fun σ G=>DdS p k r m0 Ms.length kn nu σ/\DdI CK CC CM CS Ms es l p k dx m sl r sg m0 ev H G) ?_ ?_
 rotate_left
 ·intro N W;refine fZ {_,rfl,rfl,_,rfl,gi (fun c=>?_) (fun c=>W _ _ {{_,_,rfl},Y})};obtain⟨kvs,ns,J⟩:=Y.jn;obtain⟨kd,qk,qd⟩:=J.ke;have fw:=J.few;refine{_,rfl,k,dx,_,rfl,qk,uV _ _ _ _ (by decide +kernel),k,kd,dx,_,_,_,kvs,iR kvs,rfl,qk,pS _ _ qd,J.kp.keys,fw.1,fun l2 eb Z gq er=>{.inl {rfl,_,SqL.of ag},_,rfl,l2,_,.int nu,rfl,rfl,ag,?_,?_}}
  ·rw[ao,gq.length_eq];omega
  ·refine W _ _ {{_,_,rfl},Y.same ?_};exact lY (aF Z _) Z _
 rintro _ G3 ⟨⟨el,ed,rfl⟩,I3⟩;exact eS (q _ I3)
end
theorem OS{G G':Hp}{p:aa}(pu:dE G p):aV (Hid {[],G} G') (Wp p G'):=fun a o e=>by
 refine jH (dD _ _ e) fun z=>?_;subst z;obtain⟨x,y,h⟩:=pu;exact fb e (.inr {_,h,fun xs z=>by cases z})
theorem DX{CK CC CM CS:aa}{Ms:List MD}{es:List Ev}{m sg k dx:aa}{ev:Int}{H:Hp}{R:VK}{E:XK}(M:MoT CM Ms H m)(J:Rn CM Ms es H m sg)(e1:1<=ev)(D:ev<=100)(hk:H k=none)(O:H dx=none)
  (q:∀(G:Hp) (W Z kd co:aa),aV H G->G k=some (.ins CK dx (jI (.ref W) (.ref Z) (.int ev) (.ref kd)))->Rn CM Ms es (Hid {[k],H} G) W Z->Hid {[k],H} G kd=some (.dK [(Sum.inl 0,.ref co)])->Kpt CC CS W Ms es (Hid {[k],H} G) [(Sum.inl 0,.ref co)]->R .non G):OG CK CC CM CS [.ref k,.ref m,.ref sg,.int ev] (upd (upd H dx (.own k)) k (.ins CK dx [])) R E:=by
 have Y:aV H (upd (upd H dx (.own k)) k (.ins CK dx [])):=fun b o e=>by
  rw[aO (av e hk),aO (av e O)];exact e
 have nk:(upd (upd H dx (.own k)) k (.ins CK dx [])) k=some (.ins CK dx []):=ag;revert Y nk;generalize upd (upd H dx (.own k)) k (.ins CK dx [])=H6;intro Y nk;refine{Ms,es,k,dx,m,sg,ev,rfl,nk,M.same Y,J.same Y,e1,D,fun G W Z kd co b U g t I=>?_};have V:aV (Hid {[],H6} G) (Hid {[k],H} G):=fun a o e=>by
  rw[dS fun z=>?_]
  ·exact dD _ _ e
  ·rcases z with z|⟨o',z,y⟩
   ·exact fb e (.inr {_,by rw[aE.mp z];exact nk,fun xs w=>by cases w})
   ·exact fb e (.inr {o',Y _ _ z,y})
 exact q G W Z kd co (fun a o e=>b _ _ (Y _ _ e) (av e hk)) U (g.same V) (V _ _ t) (I.same V)
def KeM(CK CC CM CS:aa)(Ms:List MD)(es:List Ev)(F G:Hp)(k dx m sl:aa)(ev:Int):Prop:=∃kd co,G k=some (.ins CK dx (jI (.ref m) (.ref sl) (.int ev) (.ref kd)))/\Rn CM Ms es F m sl/\F kd=some (.dK [(Sum.inl 0,.ref co)])/\Kpt CC CS m Ms es F [(Sum.inl 0,.ref co)]
theorem KeM.mono{CK CC CM CS:aa}{Ms:List MD}{es:List Ev}{F G Z G':Hp}{k dx m sl:aa}{ev:Int}(h:KeM CK CC CM CS Ms es F G k dx m sl ev)(s:aV F Z)(s':aV G G'):KeM CK CC CM CS Ms es Z G' k dx m sl ev:=by
 obtain⟨kd,co,h1,h2,W,Y⟩:=h;exact{kd,co,s' _ _ h1,h2.same s,s _ _ W,Y.same s}
theorem cut_1(xs:List V):rD xs (some 1) none=xs.drop 1:=by
 cases xs with
 |nil=>rfl
 |cons a xs=>exact yF (xs:=a::xs) (k:=1) (by show 1<=xs.length+1;omega)
theorem IM{p a:aa}{F G:Hp}(s:aV (Wp p F) (Wp p G))(h:G a=none):Wp p F a=none:=by
 cases z:Wp p F a with
 |none=>rfl
 |some o=>
  have:=(oI (s _ _ z)).2;rw[h]at this
  cases this
structure Ke1 where
 es:List Ev
 k:aa
 dx:aa
 m:aa
 sl:aa
 r:aa
 sg:aa
 ev:Int
structure Tw(p:aa)(l:List aa)(T:Nat->Ke1):Prop where
 pl:p∈l
 own:∀i,i<2->(T i).k∈l/\(T i).r∈l/\p≠(T i).k/\p≠(T i).r/\(T i).k≠(T i).r/\1<=(T i).ev/\(T i).ev<=100
 ds:∀i j,i<2->j<2->i≠j->(T i).k≠(T j).k/\(T i).k≠(T j).r/\(T i).r≠(T j).k/\(T i).r≠(T j).r
structure Bo(CK CC CM CS:aa)(Ms:List MD)(p:aa)(l:List aa)(T:Nat->Ke1)(m0:aa)(G0 G:Hp):Prop where
 pu:dE G p
 jn:∀i,i<2->∃kvs ns,Jn CK CC CM CS Ms (T i).es l G (T i).k (T i).dx (T i).m (T i).sl (T i).r (T i).sg m0 (T i).ev kvs ns
 sv:aV (Vw l G0) (Vw l G)
 lv:∀a∈l,∃o,G a=some o/\∀xs,o≠.tup xs
section
variable{CK CC CM CS:aa}{Ms:List MD}{p:aa}{l:List aa}{T:Nat->Ke1}{m0:aa}{G0 G G':Hp}{i:Nat}
theorem Bo.dd(b:Bo CK CC CM CS Ms p l T m0 G0 G)(h:i<2):DdI CK CC CM CS Ms (T i).es l p (T i).k (T i).dx (T i).m (T i).sl (T i).r (T i).sg m0 (T i).ev G G:={b.pu,b.jn i h,fun _ _ e _ _ _=>e,b.lv}
theorem Bo.aft(b:Bo CK CC CM CS Ms p l T m0 G0 G)(t:Tw p l T)(h:i<2)(d:DdI CK CC CM CS Ms (T i).es l p (T i).k (T i).dx (T i).m (T i).sl (T i).r (T i).sg m0 (T i).ev G G'):Bo CK CC CM CS Ms p l T m0 G0 G':=by
 obtain⟨a1,a2,_⟩:=t.own i h;have sv:aV (Vw l G) (Vw l G'):=fun a o e=>by
  obtain⟨n,e⟩:=rQ e;exact jJ n (d.fr a o e (fun z=>n (z ▸ t.pl)) (fun z=>n (z ▸ a1)) fun z=>n (z ▸ a2))
 refine{d.pu,fun j Z=>?_,b.sv.trans sv,d.lv}
 by_cases c:j=i
 ·subst c;exact d.jn
 ·obtain⟨kvs,ns,J⟩:=b.jn j Z;obtain⟨c1,W,Y,V⟩:=t.ds j i Z h c;obtain⟨_,_,d1,d2,_⟩:=t.own j Z;exact{kvs,ns,J.of sv (fun o e=>d.fr _ _ e d1.symm c1 W) (fun o e=>d.fr _ _ e d2.symm Y V)}
theorem Bo.drw(b:Bo CK CC CM CS Ms p l T m0 G0 G)(t:Tw p l T)(pu:dE G' p)(Z:But p G G'):Bo CK CC CM CS Ms p l T m0 G0 G':=by
 refine{pu,fun j Y=>?_,b.sv.trans (uA Z t.pl),fun a ha=>?_}
 ·obtain⟨kvs,ns,J⟩:=b.jn j Y;obtain⟨_,_,d1,d2,_⟩:=t.own j Y;exact{kvs,ns,J.but Z t.pl d1 d2}
 ·by_cases c:a=p
  ·obtain⟨x,y,e⟩:=pu;rw[c];exact{_,e,fun xs z=>by cases z}
  ·obtain⟨o,e,n⟩:=b.lv a ha;exact{o,Z _ _ e c,n}
end
section
variable{P:aN}{w:bL}{K:ae}{mg:Str->Option af}{base:cz}{f fP fD fMs fSs fMI fKi fDq fGd CK CC CM CS CB:aa}{fd fdP fdD fdMs fdSs fdMI fdKi fdDq fdGd:bR}
seal PS PSs PE PA PT PW PI PG PGs PC
abbrev nL:List Str:=["_law_script","_law_purse_here","_law_machines_here","_law_signs_here","_law_model","_law_rows","_law_keepers","_law_turn","_law_at","_law_k"]
abbrev pL:List Str:=["_law_script"]
theorem scL:bM nL pL (aM CA):={}
theorem ndL:((["_law_row"]:List Str)++nL).Nodup:=by decide +kernel
inductive IP(K:ae)(vs:List V)(H:Hp)(Q:VK)(_e:XK):Prop where
 |mk(a:aa)(ns:List Int)(_:vs=[.ref a])(_:SqL K H a (ns.map V.int))(_:ns.length<=63)(_:(∀x∈ns,fc x<=1048576))(_:∀H',Q (.bl true) H'):IP K vs H Q _e
def DY(K:ae):Sp:=fun vs H Q Z=>IP K vs H Q Z
theorem OT(D:Df K mg "law" CA pL f fd)(DP:Df K mg "_law_purse" mT ["_law_script"] fP fdP)(GP:bA P w K mg base CX0 2 fP fdP ["_law_script"] (Dv K))(DD:Df K mg "_law_draw" dY pD fD fdD)(ra:Df K mg "_law_machines" hW pMs fMs fdMs)(mz:bA P w K mg base CX0 14 fMs fdMs pMs spMs)(qt:Df K mg "_law_signs" km pSs fSs fdSs)(kw:bA P w K mg base CX0 4 fSs fdSs pSs spSs)
  (kv:Mk K CM fMI) (lM:bA P w K mg base CX0 31 fMI fdMI ["self","machines"] (NM CM 29)) (kB:Binds K fdMI ["self","machines"] [])
  (kt:Mk K CK fKi) (kG:bA P w K mg base CX0 33 fKi fdKi pKi (OG CK CC CM CS)) (lk:Binds K fdKi pKi []) (pR:Df K mg "_law_deed_done" iy pDq fDq fdDq) (ln:bA P w K mg base CX0 42 fDq fdDq pDq (spDq CK CC CM CS)) (px:Df K mg "_law_good" pj pGd fGd fdGd) (mc:bA P w K mg base CX0 41 fGd fdGd pGd (spGd CK CC CM CS)) (TM:MdT K mg CM CS) (TK:KeT K mg CK) (B:Bl mg):bA P w K mg base CX0 43 f fd pL (DY K):=by
 have GD:bA P w K mg base CX0 1 fD fdD pD jt:=jm DD;refine D.F.ok scL (fun vs H Q E h=>?_) (fun ix A outer s H vs Q E hr h=>?_)
 ·obtain⟨a,ns,rfl,_⟩:=h;rfl
 obtain⟨sa,ns,rfl,mq,nc,mf,fin⟩:=h;have js:=EB hr;have r1:cQ 1 _:=hr.mono (by decide);have r2:cQ 2 _:=hr.mono (by decide);have r4:cQ 4 _:=hr.mono (by decide);have ki:cQ 14 _:=hr.mono (by decide);have my:cQ 32 _:=hr.mono (by decide);have mx:cQ 34 _:=hr.mono (by decide);have ky:cQ 41 _:=hr.mono (by decide);have mb:cQ 42 _:=hr;refine⟨_,ai (bh (i:=1) scL.nd rfl (Or.inl rfl) (aL GP r2 (by rfl) DP.m DP.F.kp DP.b .nil bC (bE (pv 0) aj)))
  (ai (bh (i:=2) scL.nd rfl (Or.inl rfl) (aL mz ki (by rfl) ra.m ra.F.kp ra.b .nil bC (bE (pv 1) aj)))
  (ai (bh (i:=3) scL.nd rfl (Or.inl rfl) (aL kw r4 (by rfl) qt.m qt.F.kp qt.b .nil bC (bE (pv 1) (jc (cS (eX K (by rfl)) (by rfl) B.len cA (bE (pv 2) aj)) aj))))
  (ai (bh (i:=4) scL.nd rfl (Or.inr rfl) (jW kv lM my (by rfl) TM.mM kB .nil bC (bE (pv 2) aj)))
  (ai (bh (i:=5) scL.nd rfl (Or.inl rfl) (eA (xi (eA (bE (pv 3) (qU (cV gP aw (aL GD r1 (by rfl) DD.m DD.F.kp DD.b .nil bC (bE (pv 1) (dB aw aj)))) (xi (eA (dB aw aj)) aj)))) (xi (eA (l9 (sN vt (pv 3) (vp aw) vn) (qU (cV gP aw (aL GD r1 (by rfl) DD.m DD.F.kp DD.b .nil bC (bE (pv 1) (dB aw aj)))) (xi (eA (dB aw aj)) aj)))) aj))))
  (ai (zd (i:=6) ["_law_row"] (iI.open (NN:=nL) (N:=nL) (sc:=aM CA) rfl rfl (by decide +kernel) rfl (by decide +kernel) (by decide +kernel) rfl (by decide +kernel)) rfl scL.nd rfl (Or.inl rfl) (iU (pv 5)) (fun _ _ _ _=>dO (i:=0) ndL rfl (Or.inl rfl)) (fun _ _ _ _=>jY) (fun _ _ _ _=>jW kt kG mx (by rfl) TK.m lk .nil bC (bE (pv 5) (l9 (bP (wU K (by rfl)) (pv 0) aw (fun _ _=>rfl)) (l9 (bP (wU K (by rfl)) (pv 0) aw (fun _ _=>rfl)) aj)))))
  (ai (jo cO rfl (iV (by rfl) B.range (dB aw aj)) (dO (i:=7) scL.nd rfl (Or.inl rfl)) (ai (bh (i:=8) scL.nd rfl (Or.inl rfl) (aL GD r1 (by rfl) DD.m DD.F.kp DD.b .nil bC (bE (pv 1) (dB aw aj))))
  (ai (cK (yK (p9 (aL ln mb (by rfl) pR.m pR.F.kp pR.b .nil bC (bE (pv 1) (l9 (bP cJ (pv 6) (pv 8) (fun _ _=>rfl)) (l9 (bP cJ (pv 5) (pv 8) (fun _ _=>rfl)) (bE (pv 4) (jc (cS (eX K (by rfl)) (by rfl) B.len cA (bE (pv 2) aj)) aj)))))))) (ay (bN lD)) bS)
  (ay (jo cO rfl (iV (by rfl) B.range (dB aw aj)) (dO (i:=9) scL.nd rfl (Or.inl rfl)) (ay (cK (yK (p9 (aL mc ky (by rfl) px.m px.F.kp px.b .nil bC (bE (pv 1) (l9 (bP cJ (pv 6) (pv 9) (fun _ _=>rfl)) (l9 (bP cJ (pv 5) (pv 9) (fun _ _=>rfl)) (bE (pv 4) aj))))))) (ay (bN lD)) bS)))))))
  (ay (bN lD)))))))),?_⟩
 have big:=dW
 -- the purse, the machines, the signs
 refine cg (cL {_,rfl,sa,ns,rfl,mq,nc,mf,fun p H1 np ph s1=>aY ?_});dsimp only;refine cg (cL {_,rfl,p,rfl,ph,fun ml xs Ms H2 rc ro m0 m6 oc pM b2=>aY ?_});dsimp only;have lx:=aZ ro;refine cg (cL {_,rfl,_,rfl,ml,_,rfl,.inl (SqL.of rc),p,Ms.length,(by show [V.ref p,V.int (xs.length:Int)]=_;rw[lx]),pM,m0,by omega,fun ol md es H3 pb pe io ly kz sd b3=>aY ?_});dsimp only;have ur:=b3 _ _ rc oc;have rr:=Paired.mono (fun v M z=>MIn.but ph pM b3 z) ro;clear ro rc b2 pM b3 s1
 -- the bf
 refine cg (cL (uo {_,rfl,fun m U hm sk ow=>?_}));have sA:aV H3 (upd (upd H3 U (.own m)) m (.ins CM U [])):=fun b o e=>by
  rw[aO (av e hm),aO (av e sk)];exact e
 have ts:aP (MIn Ms.length H1 (upd (upd H3 U (.own m)) m (.ins CM U []))) xs Ms:=Paired.mono (fun v M z=>by
  obtain⟨t,e,y⟩:=z;exact{t,e,y.same sA}) rr
 refine{m,U,.ref ml,rfl,ag,DG (sA _ _ ur) ts (by omega),fun v' G5 s5 al=>{rfl,aY ?_}};obtain⟨ss,rfl,nz⟩:=KD (sA _ _ ur) ts al;have ov:=Alike.tree (DG (sA _ _ ur) ts (by omega)) al;have tn:aV H3 (upd G5 m (.ins CM U (cH "machines" (.ref ss) []))):=lY (sA.trans s5) hm _;dsimp only;have pn:H3 p≠none:=fun z=>by
  obtain⟨x,y,e⟩:=sd;rw[z]at e
  cases e
 have M5:=(mo_h hm ow pn nz ov (But.refl p _)).same (OS sd);have ry:=sd.same tn;have R5:Rn CM Ms es (Wp p (upd G5 m (.ins CM U (cH "machines" (.ref ss) [])))) m ol:=⟨M5.at,by omega,⟨md,jH (tn _ _ pb) kz,Paired.mono (fun v e z=>by
  obtain⟨t',e',h⟩:=z.same tn;refine{t',e',jH h fun z=>?_};obtain⟨x,y,h2⟩:=ry;rw[z,h2]at h
  cases h) pe⟩,by omega,ly⟩
 have sF:Wp p (upd G5 m (.ins CM U (cH "machines" (.ref ss) []))) ml=some (.lst xs):=jH (tn _ _ ur) oc;clear nz ov al s5 ts sA hm sk ow rr ur tn pb pe pn sd;revert M5 ry R5 sF;generalize upd G5 m (.ins CM U (cH "machines" (.ref ss) []))=G5';intro M5 ry R5 sF;have kn:=R5;obtain⟨tm,oT,sH⟩:=kn.sg;have iv:=aZ sH
 -- the rows
 refine cg (cL {_,rfl,_,rfl,p,5,rfl,ry,by decide,by decide,fun v1 G6 kc ka si b6=>{_,_,rfl,rfl,by show 1<=aB;omega,fun a1 ri=>{by show 3<=aB;omega,fun Y sS=>?_}}});have np:∀{G:Hp} {a:aa},dE G p->G a=none->a≠p:=fun pu h=>ux pu h;have t1:=aF ri (.lst [.int 0]);have t2:=t1.trans (aF sS (.lst [.ref ol,.int (1+v1),.ref a1]));have w7:aV (Wp p G5') (Wp p (upd (upd G6 a1 (.lst [.int 0])) Y (.lst [.ref ol,.int (1+v1),.ref a1]))):=b6.wp.trans (tI t2);have mW:Wp p G5' Y=none:=IM (b6.wp.trans (tI t1)) sS;have ap:=np si ri;have aq:a1≠Y:=av ag sS;have qp:=np (si.same t1) sS;have ti:Wp p (upd (upd G6 a1 (.lst [.int 0])) Y (.lst [.ref ol,.int (1+v1),.ref a1])) a1=some (.lst [.int 0]):=jH (aS ag aq) ap;have tp:Wp p (upd (upd G6 a1 (.lst [.int 0])) Y (.lst [.ref ol,.int (1+v1),.ref a1])) Y=some (.lst [.ref ol,.int (1+v1),.ref a1]):=jH ag qp;have sD:=si.same t2;revert w7 ti tp sD;generalize upd (upd G6 a1 (.lst [.int 0])) Y (.lst [.ref ol,.int (1+v1),.ref a1])=G7;intro w7 ti tp sD;clear t1 t2 ri sS b6 si;have h7:=(oI (w7 _ _ oT)).2;refine{_,rfl,_,rfl,ol,tm,rfl,SqL.of h7,fun o2 sG=>?_};rw[cut_1];have u1:=aF sG (.lst (tm.drop 1));refine{_,rfl,p,5,rfl,sD.same u1,by decide,by decide,fun v2 G8 iF im sK b8=>{_,_,rfl,rfl,by show 1<=aB;omega,fun a2 sf=>{by show 3<=aB;omega,fun Z O=>{by show 2<=aB;omega,fun rw uG=>aY ?_}}}};dsimp only;have t1:=aF sf (.lst [.int 0]);have t2:=t1.trans (aF O (.lst [.ref o2,.int (1+v2),.ref a2]));have t3:=t2.trans (aF uG (.lst [.ref Y,.ref Z]));have w8:aV (Wp p G7) (Wp p G8):=(tI u1).trans b8.wp;have w9:aV (Wp p G7) (Wp p (upd (upd (upd G8 a2 (.lst [.int 0])) Z (.lst [.ref o2,.int (1+v2),.ref a2])) rw (.lst [.ref Y,.ref Z]))):=w8.trans (tI t3);have op:o2≠p:=np sD sG;have oq:o2≠Y:=(av (oI tp).2 sG).symm;have qb:=b8 _ _ (jU sG (.lst (tm.drop 1))) op;have rz:=(oI (w8 _ _ tp)).2;have nf:a2≠p:=np sK sf;have ls:a2≠Y:=(av rz sf).symm;have lz:Z≠p:=np (sK.same t1) O;have oL:Y≠Z:=av (t1 _ _ rz) O;have pi:a2≠Z:=av ag O;have oi:o2≠Z:=av (t1 _ _ qb) O;have nl:a1≠Z:=av (t1 _ _ (oI (w8 _ _ ti)).2) O;have rp:rw≠p:=np (sK.same t2) uG;have mv:rw≠Y:=(av (t2 _ _ rz) uG).symm;have lp:rw≠Z:=(av ag uG).symm;have mm:Wp p G5' Z=none:=IM ((w7.trans w8).trans (tI t1)) O;have pw:=w7.trans w9;have sx:=t3 _ _ qb;have rb:=(oI (w9 _ _ ti)).2;have va:=(oI (w9 _ _ tp)).2;have rf:(upd (upd (upd G8 a2 (.lst [.int 0])) Z (.lst [.ref o2,.int (1+v2),.ref a2])) rw (.lst [.ref Y,.ref Z])) a2=some (.lst [.int 0]):=(aF uG _) _ _ ((aF O _) _ _ ag);have g:(upd (upd (upd G8 a2 (.lst [.int 0])) Z (.lst [.ref o2,.int (1+v2),.ref a2])) rw (.lst [.ref Y,.ref Z])) Z=some (.lst [.ref o2,.int (1+v2),.ref a2]):=(aF uG _) _ _ ag;have tt:=jU uG (.lst [.ref Y,.ref Z]);have tz:=sK.same t3;revert w9 pw sx rb va rf g tt tz;generalize upd (upd (upd G8 a2 (.lst [.int 0])) Z (.lst [.ref o2,.int (1+v2),.ref a2])) rw (.lst [.ref Y,.ref Z])=W;intro w9 pw sx rb va rf g tt tz;clear t1 t2 t3 w8 qb rz sf O uG b8 sK u1 sG h7 w7 ti tp sD w9;have rx:aV (Wp p G5') W:=pw.trans (DI _ _);have M9:=M5.same rx;have R9:=R5.same rx;have lf:Rn CM Ms (es.drop 1) W m o2:={R9.mo,R9.lm,{_,sx,DV 1 (Paired.mono (fun _ _ z=>z.same rx) sH)},by rw[je];have:=R9.le;omega,fun e he=>R9.ev e (rP he)}
 -- the keepers
 refine cg (cL (xo (fun a xs H1=>a=rw/\xs=[.ref Y,.ref Z]/\H1=W) (fun R hR=>{_,rfl,hR _ _ _ ⟨rfl,rfl,rfl⟩}) ?_ (fun a xs H1 i ys G=>(i=0/\ys=[]/\G=W)\/(i=1/\∃k dx m' sl,ys=[.ref k]/\aV W G/\W k=none/\KeM CK CC CM CS Ms es (Hid {[k],W} G) G k dx m' sl (1+v1))\/(i=2/\∃k dx m' sl k2 sZ m2 ui,ys=[.ref k,.ref k2]/\aV W G/\W k=none/\W k2=none/\k≠k2/\KeM CK CC CM CS Ms es (Hid {[k,k2],W} G) G k dx m' sl (1+v1)/\KeM CK CC CM CS Ms (es.drop 1) (Hid {[k,k2],W} G) G k2 sZ m2 ui (1+v2))) ?_ ?_ ?_ ?_))
 ·rintro rw _ W ⟨rfl,rfl,rfl⟩;exact SqL.of tt
 ·rintro rw _ W ⟨rfl,rfl,rfl⟩;exact .inl ⟨rfl,rfl,rfl⟩
 ·rintro rw _ W ⟨rfl,rfl,rfl⟩ i ys G hi h
  rcases h with⟨rfl,rfl,rfl⟩|⟨rfl,k,dx,m',sl,rfl,s,_⟩|⟨rfl,k,dx,m',sl,k2,sZ,m2,ui,rfl,s,_⟩
  ·exact{SqL.of tt,by show 0<aB;omega}
  ·exact{SqL.of (s _ _ tt),by show 1<aB;omega}
  ·exact{SqL.of (s _ _ tt),by show 2<aB;omega}
 ·rintro rw _ W ⟨rfl,rfl,rfl⟩ i x ys G hx h
  rcases h with⟨rfl,rfl,rfl⟩|⟨rfl,k,dx,m',sl,rfl,s,nk,Km⟩|⟨rfl,_⟩
  ·cases hx;refine aY {rfl,_,rfl,_,rfl,Y,_,0,.ref ol,rfl,rfl,SqL.of va,rfl,_,rfl,Y,_,1,.int (1+v1),rfl,rfl,SqL.of va,rfl,fun k lj hk sk _=>?_};refine DX M9 R9 (by omega) (by omega) hk sk fun sB m' lc kd co s qk Rk dk kk=>{rfl,.inr (.inl ⟨rfl,k,lj,m',lc,rfl,s,hk,kd,co,qk,Rk,dk,kk⟩)}
  ·cases hx;refine aY {rfl,_,rfl,_,rfl,Z,_,0,.ref o2,rfl,rfl,SqL.of (s _ _ g),rfl,_,rfl,Z,_,1,.int (1+v2),rfl,rfl,SqL.of (s _ _ g),rfl,fun k2 no sM pr _=>?_};obtain⟨jp,jl,pa,_⟩:=id Km;refine DX (M9.same s) (lf.same s) (by omega) (by omega) sM pr fun pc m2 ui lw na s2 mr mn la rv=>{rfl,.inr (.inr {rfl,k,dx,m',sl,k2,no,m2,ui,rfl,s.trans s2,nk,?_,av pa sM,Km.mono (fun a o e=>?_) s2,?_})}
   ·cases z:W k2 with
    |none=>rfl
    |some o=>
     rw[s _ _ z]at sM
     cases sM
   ·have ea:=dD _ _ e;rw[dS fun z=>?_]
    ·exact s2 _ _ ea
    ·rcases z with z|z
     ·have z:a∈[k,k2]:=z
      rcases ar.mp z with z|z
      ·exact fb e (.inl (by rw[z];exact aE.mpr rfl))
      ·exact av ea sM (aE.mp z)
     ·exact fb e (.inr z)
   ·have sh:aV (Hid {[k2],G} pc) (Hid {[k,k2],W} pc):=fun a o e=>by
     rw[dS fun z=>?_]
     ·exact dD _ _ e
     ·rcases z with z|⟨o',z,y⟩
      ·have z:a∈[k,k2]:=z
       rcases ar.mp z with z|z
       ·exact fb e (.inr {_,by rw[z];exact pa,fun xs w=>by cases w})
       ·exact fb e (.inl z)
      ·exact fb e (.inr {o',s _ _ z,y})
    exact{lw,na,mr,mn.same sh,sh _ _ la,rv.same sh}
  ·cases hx
 rintro rw _ W ⟨rfl,rfl,rfl⟩ ys G h
 rcases h with⟨z,_⟩|⟨z,_⟩|⟨_,k,dx,m',sl,k2,sZ,m2,ui,rfl,s,nk,pq,rv,Ka,Kb⟩
 ·cases z
 ·cases z
 intro kl I;refine aY ?_;dsimp only;have kI:kl≠p:=np (tz.same s) I;have sL:=aF I (.lst [.ref k,.ref k2]);have nT:G k≠none:=fun z=>by
  obtain⟨_,_,e,_⟩:=Ka;rw[z]at e
  cases e
 have oD:G k2≠none:=fun z=>by
  obtain⟨_,_,e,_⟩:=Kb;rw[z]at e
  cases e
 have pk:p≠k:=fun z=>by
  obtain⟨x,y,e⟩:=tz;rw[z,nk]at e
  cases e
 have kh:p≠k2:=fun z=>by
  obtain⟨x,y,e⟩:=tz;rw[z,pq]at e
  cases e
 have ub:∀{a:aa} {o:HO},W a=some o->a≠k/\a≠k2:=fun e=>{av e nk,av e pq};have hid:aV (Hid {[k,k2],W} G) (Vw [p,k,k2,Y,Z] (upd G kl (.lst [.ref k,.ref k2]))):=fun a o e=>by
  have ea:=dD _ _ e;refine jJ (fun z=>fb e ?_) (sL _ _ ea);simp only[ar,aK,or_false]at z;obtain⟨x,y,ep⟩:=tz
  rcases z with rfl|z|z|rfl|rfl
  ·exact .inr {_,ep,fun xs w=>by cases w}
  ·exact .inl (by rw[z];simp)
  ·exact .inl (by rw[z];simp)
  ·exact .inr {_,va,fun xs w=>by cases w}
  ·exact .inr {_,g,fun xs w=>by cases w}
 have sV:aV (Wp p G5') (Vw [p,k,k2,Y,Z] (upd G kl (.lst [.ref k,.ref k2]))):=fun a o e=>by
  have e9:=rx _ _ e;refine jJ (fun z=>?_) (sL _ _ (s _ _ e9));simp only[ar,aK,or_false]at z
  rcases z with z|z|z|z|z
  ·exact (oI e).1 z
  ·exact (ub e9).1 z
  ·exact (ub e9).2 z
  ·rw[z,mW]at e
   cases e
  ·rw[z,mm]at e
   cases e
 have old:∀{a:aa} {o:HO},W a=some o->a≠p->a≠Y->a≠Z->Vw [p,k,k2,Y,Z] (upd G kl (.lst [.ref k,.ref k2])) a=some o:=fun {a o} e n1 n2 n3=>by
  refine jJ (fun z=>?_) (sL _ _ (s _ _ e));simp only[ar,aK,or_false]at z
  rcases z with z|z|z|z|z
  ·exact n1 z
  ·exact (ub e).1 z
  ·exact (ub e).2 z
  ·exact n2 z
  ·exact n3 z
 have vA:=old rb ap aq nl;have vO:=old sx op oq oi;have vB:=old rf nf ls pi;have vR:=old tt rp mv lp;have vL:Vw [p,k,k2,Y,Z] (upd G kl (.lst [.ref k,.ref k2])) kl=some (.lst [.ref k,.ref k2]):=by
  refine jJ (fun z=>?_) ag;simp only[ar,aK,or_false]at z
  rcases z with z|z|z|z|z
  ·exact kI z
  ·exact nT (z ▸ I)
  ·exact oD (z ▸ I)
  ·rw[z,s _ _ va]at I
   cases I
  ·rw[z,s _ _ g]at I
   cases I
 have vM:=sV _ _ sF;have R0:=R5.same sV;have oe:Rn CM Ms (es.drop 1) (Vw [p,k,k2,Y,Z] (upd G kl (.lst [.ref k,.ref k2]))) m o2:={R0.mo,R0.lm,{_,vO,DV 1 (Paired.mono (fun _ _ z=>z.same sV) sH)},by rw[je];have:=R0.le;omega,fun e he=>R0.ev e (rP he)};have J1:∃kvs ns,Jn CK CC CM CS Ms es [p,k,k2,Y,Z] (upd G kl (.lst [.ref k,.ref k2])) k dx m' sl Y ol m (1+v1) kvs ns:=by
  obtain⟨kd,co,h1,h2,h3,h4⟩:=Ka.mono hid sL;exact{_,[0],⟨kd,h1,h3⟩,h2,h4,{a1,sL _ _ (s _ _ va),vA},.refl _,ib _ _,R0,fun n hn=>by rw[aE.mp hn];decide}
 have J2:∃kvs ns,Jn CK CC CM CS Ms (es.drop 1) [p,k,k2,Y,Z] (upd G kl (.lst [.ref k,.ref k2])) k2 sZ m2 ui Z o2 m (1+v2) kvs ns:=by
  obtain⟨kd,co,h1,h2,h3,h4⟩:=Kb.mono hid sL;exact{_,[0],⟨kd,h1,h3⟩,h2,h4,{a2,sL _ _ (s _ _ g),vB},.refl _,ib _ _,oe,fun n hn=>by rw[aE.mp hn];decide}
 have ut:=(tz.same s).same sL;have qm:=ub va;have rm:=ub g;revert J1 J2 ut vL vR vM;generalize upd G kl (.lst [.ref k,.ref k2])=sB;clear hid sV old vA vO vB R0 oe Ka Kb I nT oD sL s ub;intro vR vL vM J1 J2 ut;obtain⟨T,T0,T1⟩:∃T:Nat->Ke1,T 0=⟨es,k,dx,m',sl,Y,ol,1+v1⟩/\T 1=⟨es.drop 1,k2,sZ,m2,ui,Z,o2,1+v2⟩:={fun i=>if i=0 then _ else _,rfl,rfl};have two:∀{C:Nat->Prop},C 0->C 1->∀i,i<2->C i:=fun c0 c1 i hi=>by
  rcases (by omega:i=0\/i=1) with rfl|rfl
  ·exact c0
  ·exact c1
 have tw:Tw p [p,k,k2,Y,Z] T:=⟨aC,two (by rw[T0];exact{by simp,by simp,pk,qp.symm,qm.1.symm,by show 1<=1+v1;omega,by show 1+v1<=100;omega}) (by rw[T1];exact{by simp,by simp,kh,lz.symm,rm.2.symm,by show 1<=1+v2;omega,by show 1+v2<=100;omega}),fun i j hi hj ne=>by
  rcases (by omega:i=0\/i=1) with rfl|rfl
  ·obtain rfl:j=1:=by omega
   rw[T0,T1];exact⟨rv,rm.1.symm,qm.2,oL⟩
  ·obtain rfl:j=0:=by omega
   rw[T0,T1];exact⟨rv.symm,qm.2.symm,rm.1,oL.symm⟩⟩
 have py:Bo CK CC CM CS Ms p [p,k,k2,Y,Z] T m sB sB:=⟨ut,two (by rw[T0];exact J1) (by rw[T1];exact J2),aV.refl _,fun a ha=>by
  simp only[ar,aK,or_false]at ha;obtain⟨x,y,ep⟩:=ut;obtain⟨_,_,J1⟩:=J1;obtain⟨_,_,J2⟩:=J2;obtain⟨_,e1,_⟩:=J1.ke;obtain⟨_,e2,_⟩:=J2.ke;obtain⟨_,e3,_⟩:=J1.rw_;obtain⟨_,e4,_⟩:=J2.rw_
  rcases ha with rfl|rfl|rfl|rfl|rfl
  ·exact{_,ep,fun xs w=>by cases w}
  ·exact{_,e1,fun xs w=>by cases w}
  ·exact{_,e2,fun xs w=>by cases w}
  ·exact{_,e3,fun xs w=>by cases w}
  ·exact{_,e4,fun xs w=>by cases w}⟩
 have lK:∀i,i<2->[V.ref k,V.ref k2][i]?=some (.ref (T i).k):=two (by rw[T0];rfl) (by rw[T1];rfl);have lR:∀i,i<2->[V.ref Y,V.ref Z][i]?=some (.ref (T i).r):=two (by rw[T0];rfl) (by rw[T1];rfl);clear J1 J2 ut T0 T1 two;revert tw py vR vL vM;generalize [p,k,k2,Y,Z]=l;intro vR vL vM tw py;refine cg {12,rfl,by decide,by decide,?_};refine nI (n:=12) (fun _ σ G=>(∃u7 u8 u9:Option V,σ=[some (.ref sa),some (.ref p),some (.ref ml),some (.ref ol),some (.ref m),some (.ref rw),some (.ref kl),u7,u8,u9])/\Bo CK CC CM CS Ms p l T m sB G) {{_,_,_,rfl},py} ?_ ?_
 ·rintro _ _ G _ ⟨⟨u7,u8,u9,rfl⟩,b⟩;refine aY ?_;dsimp only;refine cg (cL {_,rfl,p,2,rfl,b.pu,by decide,by decide,fun at_ Ga a0 a1 pp ba=>aY ?_});dsimp only;have Ba:=b.drw tw pp ba;obtain⟨i,rfl⟩:∃i:Nat,at_=i:={at_.toNat,by omega};have hi:i<2:=by omega
  have tq:=Ba.sv.trans pS;obtain⟨o1,nh,o3,o4,o5,o6,o7⟩:=tw.own i hi;refine cg (fZ {_,rfl,_,rfl,_,rfl,kl,_,_,.ref (T i).k,rfl,rfl,SqL.of (tq _ _ vL),ij (lK i hi),_,rfl,_,rfl,rw,_,_,.ref (T i).r,rfl,rfl,SqL.of (tq _ _ vR),ij (lR i hi),_,rfl,_,rfl,ml,xs,rfl,.inl (SqL.of (tq _ _ vM)),Ms,(T i).es,l,p,(T i).k,(T i).dx,(T i).m,(T i).sl,(T i).r,(T i).sg,m,(T i).ev,(by show [V.ref p,V.ref (T i).k,V.ref (T i).r,V.ref m,V.int (xs.length:Int)]=_;rw[lx]),Ba.dd hi,tw.pl,o1,nh,o3,o4,o5,m0,by omega,o6,o7,fun Gd d=>{_,rfl,gb ?_}});dsimp only[j6];have Bd:=Ba.aft tw hi d;refine{2,rfl,by decide,by decide,?_};refine nI (n:=2) (fun _ σ G=>(∃u7 u8 u9:Option V,σ=[some (.ref sa),some (.ref p),some (.ref ml),some (.ref ol),some (.ref m),some (.ref rw),some (.ref kl),u7,u8,u9])/\Bo CK CC CM CS Ms p l T m sB G) {{_,_,_,rfl},Bd} ?_ ?_
  ·clear Bd d Ba ba pp b;rintro j _ G hj ⟨⟨u7,u8,u9,rfl⟩,b⟩;refine aY ?_;dsimp only;have e0:(0:Int)+(j:Int)=(j:Int):=Int.zero_add _;rw[e0];have tq:=b.sv.trans pS;obtain⟨o1,nh,o3,o4,o5,o6,o7⟩:=tw.own j hj;obtain⟨kvs,mt,J⟩:=b.jn j hj;refine fZ {_,rfl,_,rfl,_,rfl,kl,_,_,.ref (T j).k,rfl,rfl,SqL.of (tq _ _ vL),ij (lK j hj),_,rfl,_,rfl,rw,_,_,.ref (T j).r,rfl,rfl,SqL.of (tq _ _ vR),ij (lR j hj),_,rfl,Ms,(T j).es,l,p,(T j).k,(T j).dx,(T j).m,(T j).sl,(T j).r,(T j).sg,m,(T j).ev,kvs,mt,rfl,b.pu,J,tw.pl,o3,o4,fun Gg mu bg=>{_,rfl,gb ?_}};exact{{_,_,_,rfl},b.drw tw mu bg}
  ·rintro _ G ⟨⟨u7,u8,u9,rfl⟩,b⟩;exact{{_,_,_,rfl},b}
 ·rintro _ G ⟨_,b⟩;dsimp only;exact eS (fin _)
end
def jK(CN CG Z W Y CL:aa):Flt->aa
 |.nought=>CN
 |.great=>CG
 |.full=>Z
 |.dry=>W
 |.span=>Y
 |.late=>CL
end My
namespace My
theorem rA{P:Flt->Prop}(a:P .nought)(b:P .great)(c:P .full)(d:P .dry)(e:P .span)(f:P .late):∀x,P x
 |.nought=>a
 |.great=>b
 |.full=>c
 |.dry=>d
 |.span=>e
 |.late=>f
end My
namespace My
open PySem L2
theorem tK{Z:Type}{n:Nat}{us:List Z}(h:us.length=n+1):∃a l,us=a::l/\l.length=n:=by
 cases us with
 |nil=>cases h
 |cons a l=>exact{a,l,rfl,IZ h}
theorem zL{Z:Type}{us:List Z}(h:us.length=1):∃a,us=[a]:=by
 obtain⟨a,l,rfl,h⟩:=tK h
 cases l with
 |nil=>exact⟨a,rfl⟩
 |cons b l=>cases h
theorem zM{Z:Type}{us:List Z}(h:us.length=2):∃a b,us=[a,b]:=by
 obtain⟨x,l,rfl,h'⟩:=tK h;obtain⟨a1,rfl⟩:=zL h';exact⟨x,a1,rfl⟩
theorem zN{Z:Type}{us:List Z}(h:us.length=3):∃a b c,us=[a,b,c]:=by
 obtain⟨x,l,rfl,h'⟩:=tK h;obtain⟨a1,Y,rfl⟩:=zM h';exact⟨x,a1,Y,rfl⟩
theorem zO{Z:Type}{us:List Z}(h:us.length=4):∃a b c d,us=[a,b,c,d]:=by
 obtain⟨x,l,rfl,h'⟩:=tK h;obtain⟨a1,Y,c1,rfl⟩:=zN h';exact⟨x,a1,Y,c1,rfl⟩
theorem DZ{Z:Type}{us:List Z}(h:us.length=5):∃a b c d e,us=[a,b,c,d,e]:=by
 obtain⟨x,l,rfl,h'⟩:=tK h;obtain⟨a1,Y,c1,d1,rfl⟩:=zO h';exact⟨x,a1,Y,c1,d1,rfl⟩
def Dn(K:ae)(x:Str)(st:cT)(f:aa):Prop:=cj K bJ x=some (some (.ref f))/\∃fd,Fun K x x st f fd
def Mn(K:ae)(C:aa)(x q:Str)(st:cT)(f:aa):Prop:=(aU K (.ref C) x=some (some (.ref f))/\oO K (.ref f)=true)/\∃fd,Fun K x q st f fd
structure Cn(K:ae)(C:aa):Prop where
 c:Cls K C
 m:uX K C=true
 k:gF K (.ref C)=true
theorem dn_i{K:ae}{x:Str}{st:cT}{f:aa}{V:af}{od W:Option aa}{sl:Array (Option af)}{kV Y pm Z ct:af}(a:cj K bJ x=some (some (.ref f)))(l:K.lookup f=some {V,od,.func (fi x x (kU st) (ji st) (aM st) .none kV Y pm W Z ct),sl})(c:jz K Z x=true)(k:gF K (.ref f)=true):Dn K x st f:={a,_,FU l c k}
theorem mn_i{K:ae}{x q:Str}{st:cT}{f C:aa}{V:af}{od W:Option aa}{sl:Array (Option af)}{kV Y pm Z ct:af}(a:aU K (.ref C) x=some (some (.ref f)))(i:oO K (.ref f)=true)(l:K.lookup f=some {V,od,.func (fi x q (kU st) (ji st) (aM st) .none kV Y pm W Z ct),sl})(c:jz K Z q=true)(k:gF K (.ref f)=true):Mn K C x q st f:={⟨a,i⟩,_,FU l c k}
theorem dfx{K:ae}{h:cz}{mg:Str->Option af}{x:Str}{st:cT}{f:aa}(ps:List Str)(X:K.In h)(G:h.Ns bJ mg)(a:Dn K x st f)(hb:∀(kV Z pm:af) (W:Option aa) (Y ct:af) (us:List af),us.length=ps.length->Bn (fi x x (kU st) (ji st) (aM st) .none kV Z pm W Y ct) {us,[]}=pure (ps.zip us):=by intro _ _ _ _ _ _ us hl;first|(obtain⟨a,rfl⟩:=zL hl;rfl)|(obtain⟨a,b,rfl⟩:=zM hl;rfl)|(obtain⟨a,b,c,rfl⟩:=zN hl;rfl)|(obtain⟨a,b,c,d,rfl⟩:=zO hl;rfl)|(obtain⟨a,b,c,d,e,rfl⟩:=DZ hl;rfl)):∃fd,Df K mg x st ps f fd:=by
 obtain⟨a,fd,F⟩:=a;exact{fd,F,F.binds hb,cM X G a}
theorem mfx{K:ae}{x q:Str}{st:cT}{f C:aa}(ps:List Str)(a:Mn K C x q st f)(hb:∀(kV Z pm:af) (W:Option aa) (Y ct:af) (us:List af),us.length=ps.length->Bn (fi x q (kU st) (ji st) (aM st) .none kV Z pm W Y ct) {us,[]}=pure (ps.zip us):=by intro _ _ _ _ _ _ us hl;first|(obtain⟨a,rfl⟩:=zL hl;rfl)|(obtain⟨a,b,rfl⟩:=zM hl;rfl)|(obtain⟨a,b,c,rfl⟩:=zN hl;rfl)|(obtain⟨a,b,c,d,rfl⟩:=zO hl;rfl)|(obtain⟨a,b,c,d,e,rfl⟩:=DZ hl;rfl)):∃fd,Fun K x q st f fd/\Binds K fd ps []/\xw K C x f:=by
 obtain⟨⟨a,i⟩,fd,F⟩:=a;exact{fd,F,F.binds hb,a,i,F.kp}
theorem law_b{K:ae}{x q:Str}{st:cT}{f:aa}{fd:bR}{y:Str}(F:Fun K x q st f fd)(hb:∀(kV Z pm:af) (W:Option aa) (Y ct v:af),Bn (fi x q (kU st) (ji st) (aM st) .none kV Z pm W Y ct) {[v],[]}=pure [(y,v)])(s:ak)(v:af):uH s fd {[v],[]} [(y,v)]:=by
 obtain⟨U,od,kV,Z,pm,W,Y,ct,V,rfl,_⟩:=F.ex;exact .of_eq (hb kV Z pm W Y ct v)
theorem all_mk{l:vd}{w:bL}{K:ae}{h:cz}{mg:Str->Option af}{fa f1 f2 f3 f4 f5 f6 f7 f8 f9 io dt dG kB eo eb kz gq kt fx ec ej kc jl ge fk dv ih ka hC kI hB lc el he hA fz ea hI gr dV er CM gw CS eH fo CD hO ee ey hF em CB eh CC la eL jp fy CK il eF ha hn hQ hD CN CG O M J CL CF pp pa:aa}{sh sx si rx sk ss:aa}(X:K.In h)(G:h.Ns bJ mg)(ed:mg "law"=some (.ref fa))
  (a1:Dn K "worth_of" lQ f1) (a2:Dn K "number_of_leaf" gD f2) (a3:Dn K "number_of_two" gL f3) (a4:Dn K "number_of_division" eB f4) (a5:Dn K "done" zi f5) (a6:Dn K "doing_of" oZ f6) (a7:Dn K "deeds_by_sign" iu f7) (a8:Dn K "writes_of" mQ f8) (a9:Dn K "do_deeds" iP f9) (a10:Dn K "do_deed" oa io) (a11:Dn K "do_push" og dt) (a12:Dn K "do_pull" oh dG) (a13:Dn K "do_draw" oj kB) (a14:Dn K "do_send" om eo) (a15:Dn K "copied" n6 eb) (a16:Dn K "first_state" jZ kz) (a17:Dn K "place_in" o8 gq) (a18:Dn K "put_in" qF kt) (a19:Dn K "pending_at_first" gc fx) (a20:Dn K "course_at_first" fq ec) (a21:Dn K "run_on" lS ej) (a22:Dn K "plain" vH kc) (a23:Dn K "_law_mixed" mR jl) (a24:Dn K "_law_purse" mT ge) (a25:Dn K "_law_draw" dY fk) (a26:Dn K "_law_worth" fX dv) (a27:Dn K "_law_formula" gS ih) (a28:Dn K "_law_deeds" jv ka) (a29:Dn K "_law_send" lT hC) (a30:Dn K "_law_deed" lU kI) (a31:Dn K "_law_name" o9 hB) (a32:Dn K "_law_names" kj lc) (a33:Dn K "_law_machines" hW el) (a34:Dn K "_law_sign" lV he) (a35:Dn K "_law_signs" km hA) (a36:Dn K "fork" wL fz) (a37:Dn K "_law_forked" kX ea) (a38:Dn K "_law_gone" pf hI) (a39:Dn K "_law_deed_done" iy gr) (a40:Dn K "_law_good" pj dV) (a41:Dn K "law" CA er) (aCM:cj K bJ "Model"=some (some (.ref CM))) (a42:Mn K CM "__init__" "Model.__init__" oX gw) (pCM:Cn K CM) (nCMmachines:aU K (.ref CM) "machines"=some none) (aCS:cj K bJ "State"=some (some (.ref CS))) (a43:Mn K CS "__init__" "State.__init__" jC eH) (a44:Mn K CS "copy" "State.copy" iY fo) (pCS:Cn K CS) (nCSboxes:aU K (.ref CS) "boxes"=some none) (nCSqueues:aU K (.ref CS) "queues"=some none) (nCSdrawn:aU K (.ref CS) "drawn"=some none) (nCSsent:aU K (.ref CS) "sent"=some none) (aCD:cj K bJ "Doing"=some (some (.ref CD))) (a45:Mn K CD "__init__" "Doing.__init__" oY hO) (a46:Mn K CD "now" "Doing.now" ju ee) (a47:Mn K CD "reckon" "Doing.reckon" fj ey) (a48:Mn K CD "queue_of" "Doing.queue_of" eV hF) (a49:Mn K CD "fill" "Doing.fill" gN em) (pCD:Cn K CD) (nCDmachine:aU K (.ref CD) "machine"=some none) (nCDhappening:aU K (.ref CD) "happening"=some none) (nCDstate:aU K (.ref CD) "state"=some none) (nCDwritten:aU K (.ref CD) "written"=some none) (nCDoutgoing:aU K (.ref CD) "outgoing"=some none) (nCDends:aU K (.ref CD) "ends"=some none) (nCDreckoned:aU K (.ref CD) "reckoned"=some none) (nCDqueued:aU K (.ref CD) "queued"=some none) (aCB:cj K bJ "Book"=some (some (.ref CB))) (a50:Mn K CB "__init__" "Book.__init__" qG eh) (pCB:Cn K CB) (nCBrecords:aU K (.ref CB) "records"=some none) (nCBending:aU K (.ref CB) "ending"=some none) (nCBstates:aU K (.ref CB) "states"=some none) (aCC:cj K bJ "Course"=some (some (.ref CC))) (a51:Mn K CC "__init__" "Course.__init__" nv la) (a52:Mn K CC "copy" "Course.copy" gR eL) (a53:Mn K CC "ending_due" "Course.ending_due" fH jp) (a54:Mn K CC "do_one" "Course.do_one" iw fy) (pCC:Cn K CC) (nCCmodel:aU K (.ref CC) "model"=some none) (nCCstates:aU K (.ref CC) "states"=some none) (nCCpending:aU K (.ref CC) "pending"=some none) (nCCreached:aU K (.ref CC) "reached"=some none) (nCCstopped:aU K (.ref CC) "stopped"=some none) (aCK:cj K bJ "Keeper"=some (some (.ref CK))) (a55:Mn K CK "__init__" "Keeper.__init__" ny il) (a56:Mn K CK "run" "Keeper.run" jD eF) (a57:Mn K CK "marks" "Keeper.marks" hU ha) (a58:Mn K CK "cut" "Keeper.cut" jE hn) (a59:Mn K CK "go_on" "Keeper.go_on" hV hQ) (a60:Mn K CK "course_from" "Keeper.course_from" eW hD) (pCK:Cn K CK) (nCKmodel:aU K (.ref CK) "model"=some none) (nCKsigns:aU K (.ref CK) "signs"=some none) (nCKevery:aU K (.ref CK) "every"=some none) (nCKkept:aU K (.ref CK) "kept"=some none) (aCN:cj K bJ "Nought"=some (some (.ref CN))) (xCN:cP K CN oV "ValueError.__new__"=true) (aCG:cj K bJ "Great"=some (some (.ref CG))) (xCG:cP K CG oV "ValueError.__new__"=true) (aCU:cj K bJ "Full"=some (some (.ref O))) (xCU:cP K O oV "ValueError.__new__"=true) (aCY:cj K bJ "Dry"=some (some (.ref M))) (xCY:cP K M oV "ValueError.__new__"=true) (aCP:cj K bJ "Span"=some (some (.ref J))) (xCP:cP K J oV "ValueError.__new__"=true) (aCL:cj K bJ "Late"=some (some (.ref CL))) (xCL:cP K CL oV "ValueError.__new__"=true) (aCF:cj K bJ "Fault"=some (some (.ref CF))) (xCF:cP K CF oV "ValueError.__new__"=true) (aCNm:cj K bJ "NoMark"=some (some (.ref pp))) (xCNm:cP K pp oV "ValueError.__new__"=true) (aCTl:cj K bJ "TooLate"=some (some (.ref pa))) (xCTl:cP K pa oV "ValueError.__new__"=true) (enn:cm K (.ref CN) (.ref CN)=some true) (egn:cm K (.ref CG) (.ref CN)=some false) (egg:cm K (.ref CG) (.ref CG)=some true) (xNN:cm K (.ref pp) (.ref pp)=some true) (xTT:cm K (.ref pa) (.ref pa)=some true) (xTN:cm K (.ref pa) (.ref pp)=some false) (xfCN:cm K (.ref CN) (.ref CF)=some true) (XN100:xP K CN) (a100:Mn K CN "word" "Nought.word" nj sh) (xfCG:cm K (.ref CG) (.ref CF)=some true) (XN101:xP K CG) (a101:Mn K CG "word" "Great.word" oW sx) (xfCU:cm K (.ref O) (.ref CF)=some true) (XN102:xP K O) (a102:Mn K O "word" "Full.word" qC si) (xfCY:cm K (.ref M) (.ref CF)=some true) (XN103:xP K M) (a103:Mn K M "word" "Dry.word" rW rx) (xfCP:cm K (.ref J) (.ref CF)=some true) (XN104:xP K J) (a104:Mn K J "word" "Span.word" qD sk) (xfCL:cm K (.ref CL) (.ref CF)=some true) (XN105:xP K CL) (a105:Mn K CL "word" "Late.word" qE ss) (zlen:cj K bJ "len"=some none) (zabs:cj K bJ "abs"=some none) (zisinstance:cj K bJ "isinstance"=some none) (zlist:cj K bJ "list"=some none) (ztuple:cj K bJ "tuple"=some none) (zstr:cj K bJ "str"=some none) (zint:cj K bJ "int"=some none) (zbool:cj K bJ "bool"=some none) (zrange:cj K bJ "range"=some none) (zmax:cj K bJ "max"=some none) (zdict:cj K bJ "dict"=some none) (zsorted:cj K bJ "sorted"=some none) (zenumerate:cj K bJ "enumerate"=some none) (zmin:cj K bJ "min"=some none) :
  ∃fd:bR,(∀(s:ak) (v:af),uH s fd {[v],[]} [("_law_script",v)])/\∀base:cz,K.In base->base.Ns bJ mg->bA l.prog w K mg base CX0 43 fa fd ["_law_script"] (DY K):=by
 obtain⟨_,D1⟩:=dfx ["formula","state","now","got"] X G a1;obtain⟨_,D2⟩:=dfx ["formula","state","now","got"] X G a2;obtain⟨_,D3⟩:=dfx ["kind","first","second"] X G a3;obtain⟨_,D4⟩:=dfx ["kind","first","second"] X G a4;obtain⟨_,D5⟩:=dfx ["model","state","happening"] X G a5;obtain⟨_,D6⟩:=dfx ["model","state","happening"] X G a6;obtain⟨_,D7⟩:=dfx ["machine","sign"] X G a7;obtain⟨_,D8⟩:=dfx ["doing"] X G a8;obtain⟨_,D9⟩:=dfx ["doing","deeds"] X G a9;obtain⟨_,pc⟩:=dfx ["doing","deed"] X G a10;obtain⟨_,ri⟩:=dfx ["doing","name","formula"] X G a11;obtain⟨_,pb⟩:=dfx ["doing","name","box","otherwise"] X G a12;obtain⟨_,rc⟩:=dfx ["doing","box","formula"] X G a13;obtain⟨_,rf⟩:=dfx ["doing","deed"] X G a14;obtain⟨_,lx⟩:=dfx ["thing"] X G a15;obtain⟨_,pw⟩:=dfx ["model","at"] X G a16;obtain⟨_,pr⟩:=dfx ["falling","thing"] X G a17;obtain⟨_,I⟩:=dfx ["falling","thing"] X G a18;obtain⟨_,qt⟩:=dfx ["signs"] X G a19;obtain⟨_,px⟩:=dfx ["model","signs"] X G a20;obtain⟨_,rb⟩:=dfx ["course","most"] X G a21;obtain⟨_,mv⟩:=dfx ["model","signs","most"] X G a22;obtain⟨_,js⟩:=dfx ["_law_cell","_law_k"] X G a23;obtain⟨_,mn⟩:=dfx ["_law_script"] X G a24;obtain⟨_,qb⟩:=dfx ["_law_purse_here","_law_out_of"] X G a25;obtain⟨_,ow⟩:=dfx ["_law_purse_here"] X G a26;obtain⟨_,kw⟩:=dfx ["_law_purse_here","_law_low","_law_boxes","_law_queues"] X G a27;obtain⟨_,mq⟩:=dfx ["_law_purse_here","_law_low","_law_left","_law_there","_law_many"] X G a28;obtain⟨_,gM⟩:=dfx ["_law_purse_here","_law_there","_law_many"] X G a29;obtain⟨_,ez⟩:=dfx ["_law_purse_here","_law_low","_law_left","_law_there","_law_many"] X G a30;obtain⟨_,gd⟩:=dfx ["_law_purse_here","_law_long"] X G a31;obtain⟨_,mu⟩:=dfx ["_law_purse_here","_law_many","_law_first"] X G a32;obtain⟨_,mb⟩:=dfx ["_law_purse_here"] X G a33;obtain⟨_,na⟩:=dfx ["_law_purse_here","_law_many"] X G a34;obtain⟨_,mW⟩:=dfx ["_law_purse_here","_law_many"] X G a35;obtain⟨_,mx⟩:=dfx ["keeper","number","sign","most"] X G a36;obtain⟨_,mz⟩:=dfx ["_law_keeper","_law_number","_law_sign_here","_law_most"] X G a37;obtain⟨_,lk⟩:=dfx ["_law_keeper","_law_number","_law_most"] X G a38;obtain⟨_,mc⟩:=dfx ["_law_purse_here","_law_keeper","_law_row","_law_model","_law_many"] X G a39;obtain⟨_,lz⟩:=dfx ["_law_purse_here","_law_keeper","_law_row","_law_model"] X G a40;obtain⟨_,nT⟩:=dfx ["_law_script"] X G a41;obtain⟨_,my,ln,ml⟩:=mfx ["self","machines"] a42;have mr:Mk K CM _:=⟨pCM.m,ml.at_,ml.fn,pCM.k⟩;obtain⟨_,H,z,ls⟩:=mfx ["self","boxes","queues","drawn","sent"] a43;obtain⟨_,rr,hz,ef⟩:=mfx ["self"] a44;have D:Mk K CS _:=⟨pCS.m,ls.at_,ls.fn,pCS.k⟩;obtain⟨_,pe,pk,mm⟩:=mfx ["self","machine","state","happening"] a45;obtain⟨_,hN,ft,hL⟩:=mfx ["self"] a46;obtain⟨_,hS,hE,hx⟩:=mfx ["self","formula"] a47;obtain⟨_,iF,ew,hf⟩:=mfx ["self","name"] a48;obtain⟨_,ix,et,ei⟩:=mfx ["self","box","worth"] a49;have oL:Mk K CD _:=⟨pCD.m,mm.at_,mm.fn,pCD.k⟩;obtain⟨_,lp,mp,ly⟩:=mfx ["self","records","ending","states"] a50;have lM:Mk K CB _:=⟨pCB.m,ly.at_,ly.fn,pCB.k⟩;obtain⟨_,pM,qm,lR⟩:=mfx ["self","model","states","pending"] a51;obtain⟨_,qp,lw,lK⟩:=mfx ["self"] a52;obtain⟨_,hH,fe,hT⟩:=mfx ["self","left"] a53;obtain⟨_,hK,kh,ii⟩:=mfx ["self"] a54;have pR:Mk K CC _:=⟨pCC.m,lR.at_,lR.fn,pCC.k⟩;obtain⟨_,hy,ky,mf⟩:=mfx ["self","model","signs","every"] a55;obtain⟨_,nc,hR,im⟩:=mfx ["self","most"] a56;obtain⟨_,gl,hg,hG⟩:=mfx ["self"] a57;obtain⟨_,ek,iv,kv⟩:=mfx ["self","number"] a58;obtain⟨_,nh,lf,dL⟩:=mfx ["self","number","most"] a59;obtain⟨_,ov,lj,dz⟩:=mfx ["self","number"] a60;have hP:Mk K CK _:=⟨pCK.m,mf.at_,mf.fn,pCK.k⟩;have e:=ed.symm.trans nT.m
 cases e;have B:Bl mg:={cR X G zlen,cR X G zabs,cR X G zisinstance,cR X G zlist,cR X G ztuple,cR X G zstr,cR X G zint,cR X G zbool,cR X G zrange,cR X G zmax,cR X G zdict};have Z:MdT K mg CM CS:={pCM.c,pCS.c,nCMmachines,nCSboxes,nCSqueues,nCSdrawn,nCSsent,cM X G aCM,cM X G aCS};have W:DT K mg CD:={pCD.c,nCDmachine,nCDhappening,nCDstate,nCDwritten,nCDoutgoing,nCDends,nCDreckoned,nCDqueued,cM X G aCD};have U:Hw K mg (jK CN CG O M J CL):={{cM X G aCN,cM X G aCG,xCN,xCG,enn,egn,egg},cM X G aCU,cM X G aCY,cM X G aCP,cM X G aCL,xCU,xCY,xCP,xCL};have Y:Mt K CD "now" "Doing.now" ju ["self"] _ _:=⟨hN,ft,hL⟩;have MtR:Mt K CD "reckon" "Doing.reckon" fj ["self","formula"] _ _:=⟨hS,hE,hx⟩;have ro:Mt K CD "queue_of" "Doing.queue_of" eV ["self","name"] _ _:=⟨iF,ew,hf⟩;have rm:Mt K CD "fill" "Doing.fill" gN ["self","box","worth"] _ _:=⟨ix,et,ei⟩;have ra:Mt K CS "copy" "State.copy" iY ["self"] _ _:=⟨rr,hz,ef⟩;obtain⟨_,rz,oe,hY⟩:=mfx ["self"] a100;obtain⟨_,rv,nl,hj⟩:=mfx ["self"] a101;obtain⟨_,ry,oc,hX⟩:=mfx ["self"] a102;obtain⟨_,sd,no,ki⟩:=mfx ["self"] a103;obtain⟨_,sf,nz,kG⟩:=mfx ["self"] a104;obtain⟨_,g,nf,kn⟩:=mfx ["self"] a105;have md:Mt K CK "cut" "Keeper.cut" jE ["self","number"] _ _:=⟨ek,iv,kv⟩;have oq:Mt K CK "marks" "Keeper.marks" hU ["self"] _ _:=⟨gl,hg,hG⟩;have TK:KeT K mg CK:={pCK.c,nCKmodel,nCKsigns,nCKevery,nCKkept,cM X G aCK};have py:Mt K CC "copy" "Course.copy" gR ["self"] _ _:=⟨qp,lw,lK⟩;have mt:Mt K CK "run" "Keeper.run" jD ["self","most"] _ _:=⟨nc,hR,im⟩;have oi:Mt K CK "go_on" "Keeper.go_on" hV ["self","number","most"] _ _:=⟨nh,lf,dL⟩;have ph:Mt K CK "course_from" "Keeper.course_from" eW ["self","number"] _ _:=⟨ov,lj,dz⟩;have gt:mg "min"=none:=cR X G zmin;have TB:BkT K mg CB:={pCB.c,nCBrecords,nCBending,nCBstates,cM X G aCB};have V:CoT K mg CC:={pCC.c,nCCmodel,nCCstates,nCCpending,nCCreached,nCCstopped,cM X G aCC};have t:Mt K CC "ending_due" "Course.ending_due" fH ["self","left"] _ _:=⟨hH,fe,hT⟩;have rp:Mt K CC "do_one" "Course.do_one" iw ["self"] _ _:=⟨hK,kh,ii⟩;have pi:mg "sorted"=none:=cR X G zsorted;have ME:mg "enumerate"=none:=cR X G zenumerate;have oD:mg "Fault"=some (.ref CF):=cM X G aCF;have MW:∀e,xw K ((jK CN CG O M J CL) e) "word" ((pP sh sx si rx sk ss) e):=fun e=>by cases e<;>assumption
 have oT:∀e,xP K ((jK CN CG O M J CL) e):=fun e=>by cases e<;>assumption
 have pq:∀e,cm K (.ref ((jK CN CG O M J CL) e)) (.ref CF)=some true:=fun e=>by cases e<;>assumption
 have BW:∀e,Binds K (pP _ _ _ _ _ _ e) ["self"] []:=rA oe nl oc no nz nf;exact{_,law_b nT.F fun _ _ _ _ _ _ _=>rfl,fun base _ _=>OT nT mn (Ie mn js B) qb mb (ok_ms mb mu (Ih mu gd qb B) mq (fun bs qs=>Mb mq ez gM kw qb ow B 4) qb ow B) mW (ok_ss mW na qb ow B) mr (Lz (n:=29) my lx B Z) ln hP (ok_ki hy mr (Lz (n:=29) my lx B Z) ln px (B6 px pw (uh pw D H z B Z) qt (zu qt ME) pR qm (xh pM V) V Z B pi) TK Z B) ky mc (ok_dq mc qb ow na lk (ok_go lk oi (Mq nh ph (Iz ov py (zI qp ra (kY rr D H z B Z) pR (xh pM V) qm V Z B) TK V (cM X G aCNm) xCNm) rb (xf rb t (yz t V) rp (xc (cf:=(jK CN CG O M J CL)) (fW:=(pP sh sx si rx sk ss)) (fdW:=(pP _ _ _ _ _ _)) rp I (uq I pr B) D5 (fun bq=>(tf (n:=5) D5 D6 oL pk (AI pe ra (kY rr D H z B Z) W Z) D9 (oA D9 pc rm MtR (gm (cf:=(jK CN CG O M J CL)) MtR Y D1 D3 D4 D2 W U Z B) pb ri (sY ri MtR (gm (cf:=(jK CN CG O M J CL)) MtR Y D1 D3 D4 D2 W U Z B) ro W U Z B) rc (qM rc MtR (gm (cf:=(jK CN CG O M J CL)) MtR Y D1 D3 D4 D2 W U Z B) rm W U Z B) rf (s9 rf MtR (gm (cf:=(jK CN CG O M J CL)) MtR Y D1 D3 D4 D2 W U Z B) Y W U Z B) ro W Z 5) D7 D8 W Z B)) MW BW (rA (lZ rz) (oG rv) (qR ry) (tD sd) (qS sf) (qT g)) oT oD pq V Z) V B) TK) TK (cM X G aCNm) xNN) mz (ok_fq mz mx (ok_fk mx ph (Iz ov py (zI qp ra (kY rr D H z B Z) pR (xh pM V) qm V Z B) TK V (cM X G aCNm) xCNm) qt (zu qt ME) I (uq I pr B) rb (xf rb t (yz t V) rp (xc (cf:=(jK CN CG O M J CL)) (fW:=(pP sh sx si rx sk ss)) (fdW:=(pP _ _ _ _ _ _)) rp I (uq I pr B) D5 (fun bq=>(tf (n:=5) D5 D6 oL pk (AI pe ra (kY rr D H z B Z) W Z) D9 (oA D9 pc rm MtR (gm (cf:=(jK CN CG O M J CL)) MtR Y D1 D3 D4 D2 W U Z B) pb ri (sY ri MtR (gm (cf:=(jK CN CG O M J CL)) MtR Y D1 D3 D4 D2 W U Z B) ro W U Z B) rc (qM rc MtR (gm (cf:=(jK CN CG O M J CL)) MtR Y D1 D3 D4 D2 W U Z B) rm W U Z B) rf (s9 rf MtR (gm (cf:=(jK CN CG O M J CL)) MtR Y D1 D3 D4 D2 W U Z B) Y W U Z B) ro W Z 5) D7 D8 W Z B)) MW BW (rA (lZ rz) (oG rv) (qR ry) (tD sd) (qS sf) (qT g)) oT oD pq V Z) V B) TK V (cM X G aCTl) xCTl) (cM X G aCNm) (cM X G aCTl) xNN xTT xTN) oq pi mt (ok_kr nc px (B6 px pw (uh pw D H z B Z) qt (zu qt ME) pR qm (xh pM V) V Z B pi) py (zI qp ra (kY rr D H z B Z) pR (xh pM V) qm V Z B) t (yz t V) rb (xf rb t (yz t V) rp (xc (cf:=(jK CN CG O M J CL)) (fW:=(pP sh sx si rx sk ss)) (fdW:=(pP _ _ _ _ _ _)) rp I (uq I pr B) D5 (fun bq=>(tf (n:=5) D5 D6 oL pk (AI pe ra (kY rr D H z B Z) W Z) D9 (oA D9 pc rm MtR (gm (cf:=(jK CN CG O M J CL)) MtR Y D1 D3 D4 D2 W U Z B) pb ri (sY ri MtR (gm (cf:=(jK CN CG O M J CL)) MtR Y D1 D3 D4 D2 W U Z B) ro W U Z B) rc (qM rc MtR (gm (cf:=(jK CN CG O M J CL)) MtR Y D1 D3 D4 D2 W U Z B) rm W U Z B) rf (s9 rf MtR (gm (cf:=(jK CN CG O M J CL)) MtR Y D1 D3 D4 D2 W U Z B) Y W U Z B) ro W Z 5) D7 D8 W Z B)) MW BW (rA (lZ rz) (oG rv) (qR ry) (tD sd) (qS sf) (qT g)) oT oD pq V Z) V B) lM mp (LS lp TB) TK V TB B gt) md TK TB B) lz (ok_gd lz qb mv (On mv px (B6 px pw (uh pw D H z B Z) qt (zu qt ME) pR qm (xh pM V) V Z B pi) rb (xf rb t (yz t V) rp (xc (cf:=(jK CN CG O M J CL)) (fW:=(pP sh sx si rx sk ss)) (fdW:=(pP _ _ _ _ _ _)) rp I (uq I pr B) D5 (fun bq=>(tf (n:=5) D5 D6 oL pk (AI pe ra (kY rr D H z B Z) W Z) D9 (oA D9 pc rm MtR (gm (cf:=(jK CN CG O M J CL)) MtR Y D1 D3 D4 D2 W U Z B) pb ri (sY ri MtR (gm (cf:=(jK CN CG O M J CL)) MtR Y D1 D3 D4 D2 W U Z B) ro W U Z B) rc (qM rc MtR (gm (cf:=(jK CN CG O M J CL)) MtR Y D1 D3 D4 D2 W U Z B) rm W U Z B) rf (s9 rf MtR (gm (cf:=(jK CN CG O M J CL)) MtR Y D1 D3 D4 D2 W U Z B) Y W U Z B) ro W Z 5) D7 D8 W Z B)) MW BW (rA (lZ rz) (oG rv) (qR ry) (tD sd) (qS sf) (qT g)) oT oD pq V Z) V B) lM mp (LS lp TB) TB V) oq pi oi (Mq nh ph (Iz ov py (zI qp ra (kY rr D H z B Z) pR (xh pM V) qm V Z B) TK V (cM X G aCNm) xCNm) rb (xf rb t (yz t V) rp (xc (cf:=(jK CN CG O M J CL)) (fW:=(pP sh sx si rx sk ss)) (fdW:=(pP _ _ _ _ _ _)) rp I (uq I pr B) D5 (fun bq=>(tf (n:=5) D5 D6 oL pk (AI pe ra (kY rr D H z B Z) W Z) D9 (oA D9 pc rm MtR (gm (cf:=(jK CN CG O M J CL)) MtR Y D1 D3 D4 D2 W U Z B) pb ri (sY ri MtR (gm (cf:=(jK CN CG O M J CL)) MtR Y D1 D3 D4 D2 W U Z B) ro W U Z B) rc (qM rc MtR (gm (cf:=(jK CN CG O M J CL)) MtR Y D1 D3 D4 D2 W U Z B) rm W U Z B) rf (s9 rf MtR (gm (cf:=(jK CN CG O M J CL)) MtR Y D1 D3 D4 D2 W U Z B) Y W U Z B) ro W Z 5) D7 D8 W Z B)) MW BW (rA (lZ rz) (oG rv) (qR ry) (tD sd) (qS sf) (qT g)) oT oD pq V Z) V B) TK) TK TB B) Z TK B}
theorem walk{l:vd}{q:aN}{Z:List Str}{J:(Str->Option af)->cz->Prop}{W:bL->cz->Prop}{d:DefRec}{K:Params->ae}(M:l.most=some 63)(Y:d.params.defaults=[])
  (O:∀(w:bL) (h:cz),W w h->(K w.params).In h)
  (F:∀(w:bL) (mg:Str->Option af) (V:aa) (h:cz),(K w.params).In h->h.Ns bJ mg->mg d.name=some (.ref V) ->
   ∃fd:bR,(∀(s:ak) (u:af),uH s fd {[u],[]} [("_law_script",u)])/\∀base:cz,(K w.params).In base->base.Ns bJ mg->bA l.prog w (K w.params) mg base CX0 43 V fd ["_law_script"] (DY (K w.params))) :
  IW q Z J W l.row.toRowW d [] (fun f vs=>Ez f vs):=
 L2.walk_ofB (n:=63) (k:=43) (x:="_law_script") (CX:=fun _=>CX0) (sp:=fun w=>DY (K w.params)) M (by decide) Y {rfl,by decide,by decide} O F (fun _ _ a ns hl hb U=>{a,ns,rfl,U,hl,hb,fun _=>rfl}) fun _ _ _ _ _ z=>z
end My
namespace PySem.W.Fast
def tw17085506933513225634:=0
def tw12706223317402286884:=0
def tw11824108923051309505:=0
def tw535532768407316162:=0
def tw5011675487552218392:=0
def tw1292439287627190496:=0
def tw13131609532252227848:=0
def tw2514902863151243017:=0
def tw8568721519376102352:=0
def tw3719682993229553685:=0
def tw5749554936176162529:=0
def tw12943852614124511137:=0
def tw8753778899757575117:=0
def tw8229227014877505432:=0
def tw5488187082367285827:=0
def tw15975172641065278620:=0
def tw11242953748083399741:=0
def tw15493472320662030356:=0
def tw8320096586904583926:=0
def tw215407090863747508:=0
def tw13444136054737308595:=0
def tw451786999398829083:=0
def tw6998033958772583845:=0
def tw18293306611404328073:=0
def tw5717170606687008999:=0
def tw11611808220254579505:=0
def tw2518854981324087771:=0
def tw16967182399951082587:=0
def tw869802358738124980:=0
def tw5160117854440009761:=0
def tw12387861968456146668:=0
def tw137344959880289593:=0
def tw13070481383556384923:=0
def tw17286652450913966944:=0
def tw17372766345103728157:=0
def tw458549843733065464:=0
def tw12295796256327261295:=0
def tw184050175004624237:=0
def tw7655379870030635065:=0
def tw785176645167688596:=0
def tw12871130547914581862:=0
def tw6629920928319752707:=0
def tw8746587393968578374:=0
def tw5456935962018030691:=0
def tw752743719839307754:=0
def tw10097561262856725875:=0
def tw805212353500287678:=0
def tw17329861554341442837:=0
def tw12712834608704195396:=0
def tw16796999082736282715:=0
def tw16752773629489218623:=0
def tw7299433920063070442:=0
def tw13390652178564081391:=0
def tw12935782492614750717:=0
def tw12347301464875825667:=0
def tw13957337663154541097:=0
def tw18016994587850894175:=0
def tw17383506363206021446:=0
def tw6471994661008765590:=0
def tw5773264232917889899:=0
def tw17715561358659789054:=0
def tw17439427216884021704:=0
def tw11308925791695350057:=0
def tw4283414218316106255:=0
def tw15490809600947314310:=0
def tw4795319522603798473:=0
def tw15092121943778825700:=0
def tw13082185504172214929:=0
def tw1301694569124106180:=0
def tw2030795140973879856:=0
def tw4293590153754261505:=0
def tw9144626678659767664:=0
def tw12294739046883887290:=0
def tw8991936213752307229:=0
def tw6597500979250486052:=0
def tw17328381755102489657:=0
def tw13900484257887500371:=0
def tw10512898603630933676:=0
def tw8354233000900492384:=0
def tw11508035997752824469:=0
def tw9060882879520356055:=0
def tw7185768354540979475:=0
def tw13555151956973046386:=0
def tw3178847633605754533:=0
def tw8386656161325278135:=0
def tw10711017294697379785:=0
def tw13867079520361827493:=0
def tw5415031552357988287:=0
def tw12360771021474255083:=0
def tw17858744037537534350:=0
def tw15242867214018877577:=0
def tw17935240409794733438:=0
def tw2565111319247872559:=0
def tw14860581475978684804:=0
def tw2225809699576675390:=0
def tw3884460894575094763:=0
def tw2477993367048020784:=0
def tw1943330798991433318:=0
def tw13228233395092409049:=0
def tw14561813768422557398:=0
def tw9787845422576969811:=0
def tw13999011122294213484:=0
def tw11719725876761681456:=0
def tw9282328435265861639:=0
def tw8932970143441185994:=0
def tw1980670639370210008:=0
def tw13434612339557238393:=0
def tw11276042568902334421:=0
def tw11183143939928136200:=0
def tw16467033570780826172:=0
def tw10158034297460325641:=0
def tw9433430231669594724:=0
def tw10166516949073363305:=0
def tw4280288669212625487:=0
def tw3740867538272035638:=0
def tw7841854112635478866:=0
def tw16766649335885330592:=0
def tw3581576725107562009:=0
def tw4192130212495038792:=0
def tw1371472733926761511:=0
def tw10105505644035758700:=0
def tw12189341810847305476:=0
def tw6725511146325026829:=0
def tw18356272100193782588:=0
def tw12006612568991772914:=0
def tw6881636834553004861:=0
def tw2808756881963390681:=0
def tw12964153221526514577:=0
def tw3394843682412313853:=0
def tw8840478803893075345:=0
def tw17520459791553059079:=0
def tw13323109186684121785:=0
def tw13048352208171031952:=0
def tw235456325148254961:=0
def tw3918193223715000219:=0
def tw11932118723193553673:=0
def tw14587445034687406598:=0
def tw16314384635375774506:=0
def tw4928691302164050347:=0
def tw16391603930342453204:=0
def tw13640549210657852389:=0
def tw15441692092677318143:=0
def tw1889626490997770365:=0
def tw4068715208571847105:=0
def tw16108522251935624821:=0
def tw6383842450364865641:=0
def tw15882617199578837226:=0
def tw1598267258788780032:=0
def tw4404852579427229106:=0
def tw8254097063310602560:=0
def tw17700493039749833871:=0
def tw16047831000431811614:=0
def tw10772477107148547137:=0
def tw14034920333725823895:=0
def tw2699743413027328448:=0
def tw16157192711562917586:=0
def tw9054834895896209862:=0
def tw14542053254168115090:=0
def tw11381734221205478532:=0
def tw7354622038437942184:=0
def tw3922824961491874195:=0
def tw765027963376590373:=0
def tw13074246659638360668:=0
def tw16170425697030867773:=0
def tw9739136527017093287:=0
def tw1008081392956923792:=0
def tw16817005289380284916:=0
def tw8754711630537444251:=0
def tw3221131912911141497:=0
def tw17807852232844869066:=0
def tw2093387565640948062:=0
def tw13590428185170733316:=0
def tw14974911992592783931:=0
def tw1659638016771782052:=0
def tw1128401195467281534:=0
def tw14985727939875183062:=0
def tw4408459160805020323:=0
def tw2599685253378789048:=0
def tw7455880697444114160:=0
def tw12820858169588848632:=0
def tw5240126604430344950:=0
def tw11626453567513818105:=0
def tw13355602569460705081:=0
def tw11905676476150366153:=0
def tw6438460500907821329:=0
def tw5070410935341792824:=0
def tw15259588522108741868:=0
def tw14878959389023988146:=0
def tw15416968210006739422:=0
def tw644936600333832197:=0
def tw10214842493285992338:=0
def tw5750593918840210128:=0
def tw6797288909663591949:=0
def tw10242126441376771089:=0
def tw7779508147197259636:=0
def tw9374076174700754437:=0
def tw8571790845775682786:=0
def tw16046991728207896285:=0
def tw13774087959562568993:=0
def tw13009665263752680272:=0
def tw2474239522141272830:=0
def tw2966272953357369530:=0
def tw15651698435258970495:=0
def tw16367727843425072454:=0
def tw1009441348461371695:=0
def tw12473839991689760623:=0
def tw13120627669757152825:=0
def tw3653764037842977350:=0
def tw703055669440582222:=0
def tw15244974921378583080:=0
def tw4137615237750188622:=0
def tw10416992438231248825:=0
def tw8846542043121731992:=0
def tw7220472825637973277:=0
def tw10618570710542291256:=0
def tw6613143455561007075:=0
def tw11171423188511424785:=0
def tw14559650944206986860:=0
def tw13674899523599936317:=0
def tw17502308047423235517:=0
def tw13212117451878858292:=0
def tw4148121587841274482:=0
def tw5511104924810619872:=0
def tw860759444265267694:=0
def tw16229853776993129917:=0
def tw9879433686006729068:=0
def tw18070456170430561636:=0
def tw6979961928535353057:=0
def tw9033375166343650471:=0
def tw13859757877573193008:=0
def tw7817817836692706580:=0
def tw178884551901574384:=0
def tw13133569954808516070:=0
def tw13729646034317834471:=0
def tw17115616827753895765:=0
def tw7016695430756573427:=0
def tw3342285239876923702:=0
def tw2306807371065976699:=0
def tw3585110368497456831:=0
def tw11017720860848430804:=0
def tw7865140801516510057:=0
def tw4235728653826831777:=0
def tw11661730543794822760:=0
def tw2029972369732122575:=0
def tw8379331315446577527:=0
def tw17773134829082862630:=0
def tw9637710825436998248:=0
def tw5746961137765674745:=0
def tw16881323590059495924:=0
def tw8917103182811350076:=0
def tw15928179303823936490:=0
def tw10809790705179659023:=0
def tw5612487924821590282:=0
def tw3715674229844238682:=0
def tw7038438106917015818:=0
def tw11155530359550202743:=0
def tw7647623379190980944:=0
def tw18352580597173378245:=0
def tw16398429776717818532:=0
def tw905076133980963953:=0
def tw3483623848836473368:=0
def tw6706722130297974081:=0
def tw13584076879121175835:=0
def tw18213389523808985289:=0
def tw10682038764380392549:=0
def tw1705204736278118428:=0
def tw5787610131975552384:=0
def tw8575161347349416791:=0
def tw18084907303920899053:=0
def tw13586597085974001828:=0
def tw17563253847381693903:=0
def tw9240798983097880447:=0
def tw9323082329583709541:=0
def tw15781579023955807774:=0
def tw5101075984463447281:=0
def tw4015800326800023662:=0
def tw12028207320785488655:=0
def tw16090425001733256549:=0
def tw5431390365526493005:=0
def tw6489369640026141601:=0
def tw11006819917241498925:=0
def tw6742771191256752923:=0
def tw7450424248630030984:=0
def tw14402718037127660461:=0
def tw16783787604522177506:=0
def tw13897014041668371619:=0
def tw18027137643635025336:=0
def tw950504146477899348:=0
def tw16750137774808612863:=0
def tw12615575533346500554:=0
def tw3243072581456523463:=0
def tw14706100213556974191:=0
def tw15635242402707271087:=0
def tw2782594049272260:=0
def tw17126776068525334399:=0
def tw4798441504275686900:=0
def tw15928474075885312044:=0
def tw961792876246966032:=0
def tw6140226784979278857:=0
def tw9507401288748111991:=0
def tw12924921842702094154:=0
def tw10589412420930478405:=0
def tw6605402406568442525:=0
def tw4406675013559152902:=0
def tw13254772456679924285:=0
def tw1360685314981870536:=0
def tw14076448679078500765:=0
def tw2292740684864755971:=0
def tw10862317695568670329:=0
def tw7091644769129323207:=0
def tw3301212075732213028:=0
def tw14609122047392683002:=0
def tw14682275444992195089:=0
def tw13760404326093869078:=0
def tw1292073094746533075:=0
def tw14045563244010276690:=0
def tw13164114035341821915:=0
def tw9877250457295663190:=0
def tw4522030905703562807:=0
def tw15044337292190275583:=0
def tw7858163134051229594:=0
def tw3134679977215207125:=0
def tw2555364956729067398:=0
def tw2977389343032646347:=0
def tw17231808263193581914:=0
def tw17286576836491611217:=0
def tw9898148058893011915:=0
def tw5872226601518789243:=0
def tw14085773237571190964:=0
def tw12703952392487912597:=0
def tw1995267755637581965:=0
def tw5978392902243060742:=0
def tw9950713279542259537:=0
def tw11225132998008666809:=0
def tw12087284093272298379:=0
def tw10298709424388273678:=0
def tw1572942172199935156:=0
def tw17995539827876312448:=0
def tw10894949259064470772:=0
def tw13790871399128728918:=0
def tw7713929137086864370:=0
def tw16053702423205600041:=0
def tw8995160555486379908:=0
def tw17288791553706210924:=0
def tw13243613577186121604:=0
def tw2815980522651773593:=0
def tw16263387547479983768:=0
def tw7800034612827693066:=0
def tw5560488983402740353:=0
def tw13123693851125252870:=0
def tw9951573392763612576:=0
def tw11848471187110169312:=0
def tw7536366420397986651:=0
def tw985074032287794248:=0
def tw288409957791479037:=0
def tw12990335478378698587:=0
def tw4540990405911582617:=0
def tw17936007430970154149:=0
def tw11046627343322713463:=0
def tw17140033671160529539:=0
def tw2415591866231957576:=0
def tw366414043241010657:=0
def tw10735757680498505472:=0
def tw6726078128170035002:=0
def tw3074582322024948020:=0
def tw4942620652981989787:=0
def tw2565738471387558378:=0
def tw10713742392073485631:=0
def tw7589944229611207910:=0
def tw11955131838095707275:=0
def tw6099671318518847467:=0
def tw17630699684128327366:=0
def tw12792526538021049836:=0
def tw11973456619120408382:=0
def tw1202896361582390394:=0
def tw10527533560994962244:=0
def tw9996288815882273433:=0
def tw17395915086282872373:=0
def tw16184386155593816691:=0
def tw2829533733898383942:=0
def tw569721222893041650:=0
def tw7039660190565008179:=0
def tw16514653434220330291:=0
def tw2296136161797901668:=0
def tw5138758959780476069:=0
def tw7561938967725757991:=0
def tw13471106223678909106:=0
def tw9212077324700231478:=0
def tw8602291915385368931:=0
def tw9021269005310591420:=0
def tw17597773989910957614:=0
def tw9062660297271748238:=0
def tw11050029932059287295:=0
def tw12242918247372183828:=0
def tw14809648999813553638:=0
def tw5284500235174811739:=0
def tw1998798443916613172:=0
def tw9190292649416118334:=0
def tw518385043406887002:=0
def tw15993960012583270874:=0
def tw3220912535403669531:=0
def tw9448307926795548904:=0
def tw937253216913379343:=0
def tw2471735575948797365:=0
def tw1559355087196324347:=0
def tw16607832214532076246:=0
def tw8420120397642208851:=0
def tw3216352315689485570:=0
def tw10878916601493644086:=0
def tw12117498970823854143:=0
def tw1382054930398852040:=0
def tw2181533168346968282:=0
def tw2377836023057652433:=0
def tw3517842560048745272:=0
def tw9237048956078393599:=0
def tw11624234649130552001:=0
def tw15811895355465869589:=0
def tw4124686216482000600:=0
def tw2085367271655521662:=0
def tw15139925314565473189:=0
def tw2555890624708295068:=0
def tw7034953673205398756:=0
def tw12035623793597924569:=0
def tw6637558176267733246:=0
def tw5324930356243472320:=0
def tw8162423519401835789:=0
end PySem.W.Fast
open PySem PySem.W PyProof.Rows
set_option maxRecDepth 100000 in
set_option maxHeartbeats 0 in
theorem PySem.Challenge.cw_momentloom_k42_keepers_used_holds : PySem.Challenge.rw_momentloom_k42_keepers_used.Holds := by
 w_on;o_law;k_head;(case hw=>w_witness2)
 k_fill
 refine My.walk (l:=OU) rfl rfl (fun w h Y=>PySem.W.kIn_of Y) ?F
 case F=>
  intro w mg fa h KX G hmg;refine' My.all_mk KX G hmg ?a1 ?a2 ?a3 ?a4 ?a5 ?a6 ?a7 ?a8 ?a9 ?a10 ?a11 ?a12 ?a13 ?a14 ?a15 ?a16 ?a17 ?a18 ?a19 ?a20 ?a21 ?a22 ?a23 ?a24 ?a25 ?a26 ?a27 ?a28 ?a29 ?a30 ?a31 ?a32 ?a33 ?a34 ?a35 ?a36 ?a37 ?a38 ?a39 ?a40 ?a41 ?aCM ?a42 ?pCM ?nCMmachines ?aCS ?a43 ?a44 ?pCS ?nCSboxes ?nCSqueues ?nCSdrawn ?nCSsent ?aCD ?a45 ?a46 ?a47 ?a48 ?a49 ?pCD ?nCDmachine ?nCDhappening ?nCDstate ?nCDwritten ?nCDoutgoing ?nCDends ?nCDreckoned ?nCDqueued ?aCB ?a50 ?pCB ?nCBrecords ?nCBending ?nCBstates ?aCC ?a51 ?a52 ?a53 ?a54 ?pCC ?nCCmodel ?nCCstates ?nCCpending ?nCCreached ?nCCstopped ?aCK ?a55 ?a56 ?a57 ?a58 ?a59 ?a60 ?pCK ?nCKmodel ?nCKsigns ?nCKevery ?nCKkept ?aCN ?xCN ?aCG ?xCG ?aCU ?xCU ?aCY ?xCY ?aCP ?xCP ?aCL ?xCL ?aCF ?xCF ?aCNm ?xCNm ?aCTl ?xCTl ?enn ?egn ?egg ?xNN ?xTT ?xTN ?xfCN ?XN100 ?a100 ?xfCG ?XN101 ?a101 ?xfCU ?XN102 ?a102 ?xfCY ?XN103 ?a103 ?xfCP ?XN104 ?a104 ?xfCL ?XN105 ?a105 ?zlen ?zabs ?zisinstance ?zlist ?ztuple ?zstr ?zint ?zbool ?zrange ?zmax ?zdict ?zsorted ?zenumerate ?zmin
  case a1|a2|a3|a4|a5|a6|a7|a8|a9|a10|a11|a12|a13|a14|a15|a16|a17|a18|a19|a20|a21|a22|a23|a24|a25|a26|a27|a28|a29|a30|a31|a32|a33|a34|a35|a36|a37|a38|a39|a40|a41=>
   refine' My.dn_i ?a ?l ?c ?k
   case a=>k_is
   case l=>k_is
   case c=>k_is
   case k=>k_is
  case aCM|aCS|aCD|aCB|aCC|aCK|aCN|aCG|aCU|aCY|aCP|aCL|aCF|aCNm|aCTl=>k_is
  case a42|a43|a44|a45|a46|a47|a48|a49|a50|a51|a52|a53|a54|a55|a56|a57|a58|a59|a60=>
   refine' My.mn_i ?a ?i ?l ?c ?k
   case a=>k_is
   case i=>k_is
   case l=>k_is
   case c=>k_is
   case k=>k_is
  case pCM|pCS|pCD|pCB|pCC|pCK=>exact{{by k_is,by k_is,by k_is,by k_is},by k_is,by k_is}
  case nCMmachines|nCSboxes|nCSqueues|nCSdrawn|nCSsent|nCDmachine|nCDhappening|nCDstate|nCDwritten|nCDoutgoing|nCDends|nCDreckoned|nCDqueued|nCBrecords|nCBending|nCBstates|nCCmodel|nCCstates|nCCpending|nCCreached|nCCstopped|nCKmodel|nCKsigns|nCKevery|nCKkept|zlen|zabs|zisinstance|zlist|ztuple|zstr|zint|zbool|zrange|zmax|zdict|zsorted|zenumerate|zmin=>k_is
  case xCN|xCG|xCU|xCY|xCP|xCL|xCF|xCNm|xCTl=>k_exc
  case enn|egn|egg=>kts_exm
  case xNN|xTT|xTN|xfCN|xfCG|xfCU|xfCY|xfCP|xfCL=>kts_exm
  case XN100|XN101|XN102|XN103|XN104|XN105=>exact{by k_is,by k_is,by k_is,by k_is,by k_is,by k_is,by k_is}
  case a100|a101|a102|a103|a104|a105=>
   refine' My.mn_i ?a ?i ?l ?c ?k
   case a=>k_is
   case i=>k_is
   case l=>k_is
   case c=>k_is
   case k=>k_is

