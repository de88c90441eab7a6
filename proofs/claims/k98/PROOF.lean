import PyProof.Rows.All
import Wide.All
import OpenK.AllK
import Wide.FinOn
import Lean
import PyProof.EqAt
import PyProof.EqKinds
import PyProof.TupleCall
import KE.KDictOf
import PyProof.AttrMissSeq
import PyProof.DictCopy
import PyProof.NeKinds
import PyProof.DictWalks
import PyProof.MinMaxWalk
import PyProof.MeetsDictList
import PyProof.DictFindH
import PyProof.DictTruth
import KE.KRevSl
import PyProof.DictItems
import KE.KDictSum
import PyProof.Rows.SortStr
import PyProof.Rows.SortWalk
import PyProof.ExcArgsOwn
import PyProof.NsDelKeeps
import PyProof.EnumMake
import PyProof.EnumFor
import PyProof.EnumStmt
import PyProof.Rows.EnumRows
import PyProof.Rows.SortRev
import KE.KSortTup
import KE.KTab
import PyProof.Rows.SortShell
import PySem.Challenge.RW_momentloom_k98_whole_forks_and_marks
local macro_rules
| `({$x:term,*})=>`(⟨$x,*⟩)
open PySem renaming Addr->aa,Value->af,Shared->ak,wpAny_bind->ao,sizeLine->aB,Paired->aJ,Program->aK,wpAny_pure->aU,wpAny->aW,model->aZ,mainGlobals->bA,World->bD,FuncData->bU,Around->bX,boot_len->cb,Heap->cB,starEach->cE,compareOp->cN,Expr->cS,Stmt->c9,wpAny_loadPart'->dy,cLine->dY,wpAny_mono->eV,wpAny_holding->e8,bootBuiltins->fg,sysModules->gc,eval->gf,mem_of_lookup->gC,binaryOp->iu,wpAny_Call_Name_kw->iD,Builtin->iE,wpAny_passesOwn->iL,wpAny_truthy_bool->i5,wpAny_newObj_type->jc,backTo->jm,keywordEach->jo,behindInMarks->jM,NameKind->kK,richCompare_meets_room->kL,assignEach->lu,wpAny_forIn_list->lH,attributeBase->lY,Scope->lZ,sizeLine_eq->me,wpAny_field->mh,sliceBounds->mi,codeAny_mono->nG,getMethod->oC,backToKw->oI,tupleKind_room_in1->oM,foldedSetIterable->pQ,codeAny->pS,richCompare->pT,valueAt->pU,wpAny_dictEntries->pV,wpAny_call_entry->qZ,holding->rE,call_meets->rL,wpAny_execs_nil->rS,letOwnedTupleGo->rT,codeAny_builtin->rV,rawInt->tM,unbindBehindTheSuite->t7,swapsWith->uw,BindsTo->uz,getItem->uC,ExceptHandler->vv,wpAny_newList->vC,stored->wg,standAt->xm,callerA->xt,wpAny_pyIter_slot->xx,tupleKind->yu,assign->yz,call->yC,IsPart->yJ,IsRangeIter->zJ,subscripted->zN,Within->zV,leaving->AW,wpAny_richCompare_same_room->A0,callWith->Bc,bindArgs->Bf,wpAny_call->Bh,wpAny_newFunctionEnv_cells->Bj,atKey->Bs,wpAny_setField->Bu,wpAny_rule->Bx,evalArgs_none->Cm,wpAny_standAt->Eb,call->Es,bindL->E8,bindC->E9,cellsFrom->Fb,wpAny_Call_method0_late->Fd,noteFrame->Ff,isTrue->Fl,wpAny_pyNext_list_item->Ft,wpAny_pyNext_range_end->Fu,wpAny_pyIter_rangeiter->Fv,wpAny_typeOf->FL,seqIndex_neg->FN,call_meetsIn->Gf,wpAny_isTrue_Compare1->IS,wpAny_pyNext_list_end->IT,codeAny_call_function->IU,Model->Jb,Operator->Jd,rule->Je,seqIndex_of->Jn,builtinsNs->Mr,wpAny_Name->Mv,wpAny_pyIter_range->MK,Result->MU,typeLookup->MX,CmpOp->OJ,wpAny_assign_Name->OK,wpAny_pyIter_list->OM,Keyword->ON,slot_list_getitem->OP
open PySem.W renaming Frag->ae,findIn->aS,nsIn->bZ,excIn->cR,mg_none_of->cT,exmOne->dD,mg_of->dN,kia_one->eS,emptyDict->fi,fnOf->fj,keepIn->gL,kitOne->gN,instObj->gR,codeIn->jC,methodCall_KW->jR,looks_findIn->kg,callWith_K->lD,katRev->lK,plainGet->nF,isFn->oH,cellsFrom_some->oJ,hideAll->o7,lookIn->p0,plainGet_of->qY,methodObj->rW,hasDictIn->sy,takerIn->uV,makesIn->uW,OpenLaw->vc,InstAt->vV,mroIn->xn,hideAll_get->AS,callWith_K0->AV,of_hideAll->A3,codeRec_of->Bi,plainOver->Cd,specialIn->Ce,kitx_list->Cf,kitx_dict->Cg,handedIn->Eh,takesIn->E7,exm_one->Fi,typeIn->FE,notCls->Gq,WalkO->IW,kas_rev->OU
open List renaming mem_cons_of_mem->ag,mem_cons->ar,length_map->av,length_append->ax,mem_singleton->aA,mem_cons_self->aC,getElem?_eq_getElem->aE,getElem?_eq_some_iff->aF,size_toArray->aG,length_cons->aR,not_mem_nil->aV,mem_append_right->aX,mem_append->bM,lookup_cons_self->bT,map_cons->cm,append_nil->cq,map_append->cu,length_nil->cw,mem_of_getElem?->cA,getElem?_map->cC,replicate->cF,lookup_cons->cG,mem_map->cH,nodup_cons->cK,length_take->cM,getElem?_append_right->cP,pairwise_iff_getElem->dC,getElem?_of_mem->dH,map_map->dR,getD_eq_getElem?_getD->dU,dropLast_subset->dW,take_length->eg,getElem?_append_left->eM,getElem?_eq_none->eU,zip_cons_cons->e7,pairwise_append->fc,getLast?_concat->ff,getElem?_set_self->fV,take_add_one->fZ,pairwise_cons->gj,mem_append_left->gZ,append_assoc->g9,map_congr_left->ia,nodup_append->iK,getElem?_set_ne->iV,length->iW,nodup_nil->iX,getElem_map->jd,length_reverse->ji,mem_map_of_mem->jj,find?_cons->jx,range->jz,pairwise_singleton->jG,take_zero->jS,pairwise_map->jT,length_replicate->km,contains_iff_mem->kE,length_filter_le->kF,lookup->kO,length_dropLast->kP,nil_append->kZ,getElem?_replicate->o9,length_drop->pf,filter_cons_of_pos->pC,isEmpty_iff->pF,of_mem_zip->p4,length_zip->qq,take_append_drop->qS,mem_range->rh,drop_zero->rA,dropLast_concat->rC,filterMap_cons->rR,mem_filterMap->tF,zip_nil_right->tG,filter_append->tK,take_sublist->uA,zip_nil_left->uB,map_nil->uD,ext_getElem?->uI,toArray->uK,reverse_perm->uL,foldl_append->uM,eraseIdxIfInBounds_toArray->uY,map_reverse->vE,getElem_mem->vF,perm_middle->vI,take_append_of_le_length->xf,mem_filter->xi,foldl_cons->xj,getElem?_zip_eq_some->yV,drop_eq_getElem_cons->zf,getLast?_eq_none_iff->zl,getElem?_take_of_lt->zL,any_cons->zO,filter_cons_of_neg->AB,take_of_length_le->A1,length_singleton->Br,mem_of_mem_take->Di,length_pos_iff->EU,getElem?_drop->Fg,reverse_cons->FR,any_eq_true->IV,drop_length->IX,cons_append->IY,all_eq_true->IZ,length_set->Jp,map_take->NO
open Nat renaming le_refl->ay,ne_of_lt->aQ,lt_of_lt_of_le->bj,zero_le->bV,le_trans->dA,le_succ->gs,not_lt_zero->gD,lt_irrefl->hU,lt_or_ge->jf,lt_of_le_of_lt->jE,lt_succ_of_lt->jX,sub_self->jZ,le_of_lt->l8,ne_of_gt->pY,lt_trans->p8,lt_of_succ_lt_succ->qc,succ_pos->qv,mul_comm->vi,lt_succ_self->vY,le_add_right->wJ,le_of_eq->Bb,succ_mul->B1,mul_le_mul_right->EV,add_le_add_left->Fe,add_sub_cancel->Gi,lt_or_gt_of_ne->Gu,eq_zero_or_pos->IR,lt_trichotomy->I9
open PySem.Heap renaming get?_push_of_some->aI,lt_size->aP,get?_push_size->cz,get?_update_other->fX,get?_push_ne->gx,size_update->gP,get?_update_self->qN,SameBut->uv,size_push->xP,get?_update_ne->ED,MadeExcOf->Lh
open PySem.Paired renaming length->aO,snoc->eN
open PySem.Builtin.Range renaming rangeSize->bJ,small->jU
open Bool renaming false_ne_true->bL,and_eq_true->jb,eq_iff_iff->pZ,and_eq_true_iff->rq,false_eq_true->tJ,noConfusion->vt,eq_false_iff->IG,or_eq_true->KS,true_and->Nd
open PySem.F renaming plainAttrs_list->cD,slot_list_append->dI,type_list_append->dJ,args_tuple_add_2->xp,entry_tuple_add->xX,args_tuple_gt_2->x9,slot_dict_items->yb,slot_tuple_add->yI,entry_tuple_gt->yZ,slot_tuple_gt->zP,slot_list_pop->zR,type_list_pop->zS
open Option.some renaming inj->cQ
open False renaming elim->cV
open PySem.PassesOwn renaming never->cY
open PySem.Obj renaming mapSeq->df,mapFields->tH,data_mapFields->tW,isFreed_of_fields->Cr
open PyProof.Rows renaming IntsAre->dZ,seqObj->d7,callWith_type1->ib,slot_tuple_getitem->jt,AllBare->pP,IsTup->qX,envOfC->tT,listUpdate_at->vB,size_push'->wD,envOfC->xE,seqEpoch_at->zQ,tuples'->A2,Constant_none->Ea,subscriptTail->Ek,sortedAll->Fj,floordiv_int->Fz,subscriptTail_builtinR->FO,call_function_entry_kw->Gr,wpAny_call_entry_kw->Lp,Subscript_->MY,args_list_sort_rev->Nl
open PySem.Builtin.Int renaming intBits->fb
open Ne renaming symm->gm
open Array renaming length_toList->gB,perm_iff_toList_perm->iQ,getElem?_eq_some_iff->mj,getD->pJ,getElem?_toList->AX,toList->Mz
open PySem.Builtin.Slice renaming slicePlaces->iy,sliceAdjust->kM,sliceApplied->sC
open List.Perm renaming refl->iB
open PySem.Builtin.Tuple renaming tupleExact->iG,tupleCompareSizes->jr
open PySem.AutoSeq1 renaming sub_tuple_tuple->ja,list_insert_list_int_val_1->OS
open Int renaming emod_lt_of_pos->jI,emod_nonneg->lT,toNat_natCast->uX,le_refl->xk,fdiv_eq_ediv_of_nonneg->yD
open Option renaming map_eq_some_iff->jL,isSome_map->m5,getD_none->Fc,map_some->GJ
open PySem.Str renaming ofString->jW
open Sum.inr renaming inj->kf
open PySem.Builtin.List renaming listTooLong->kW,listFitsIndex->tI
open PySem.W.WData renaming weight->lJ,weightAll->wA
open PySem.Calls renaming callWith_builtin->pH,Name_function_global->xl,evalArgs_plain->Bp
open Function renaming comp->q5
open PySem.Builtin.Dict renaming dictSlotArgs->tY,updateFrom->uZ,pairItems->vw,samePairs->vy
open Classical renaming byContradiction->vz
open List.cons renaming inj->wW
open PyProof renaming noPylong_of_log2->xw,noPylong_small->yE
open And renaming imp->yk
open PySem.EntryCells renaming newEntry->yR
open PySem.Around renaming under->zK,under_plainId->AZ
open PySem.SeqAt.EqAt renaming int_int->zM
open PySem.Code renaming isFrame->AU,quiet_builtin->Fh
open PySem.Heap.DictOf renaming new->AY
open PyProof.Rows.IsTup renaming new->FM
open PySem.Value renaming isStrOf->KY,isInt->OI
open Sum.inl renaming inj->KZ
open PySem.IsRange renaming new->K5
open Std.Legacy.Range renaming forIn_eq_forIn_range'->Lj,size->Ll
open PySem.Challenge renaming rw_momentloom_k98_whole_forks_and_marks->OH
open PySem.Walks renaming range->OL
open PySem.Heap.IsSliceOf renaming new->OO
open PySem.W.WShape renaming has->OQ
open PySem.Heap.UpToSlots renaming of_keeps->OR
open PyProof.Rows.SortSt renaming mk'->OT
-- CHANGE: your row's module here, as the last of these rows
set_option Elab.async false
set_option linter.all false
set_option maxRecDepth 100000
namespace L2
open PySem PySem.Spec PyProof.Rows
abbrev Key:=Sum Int Str
def xI:Key->af->Bool
 |.inl k,v=>OI k v
 |.inr x,v=>KY x v
def keyH(w:bD):Key->Int
 |.inl k=>hashInt k
 |.inr x=>hashStr w x
theorem gG:∀{k:Key} {v:af},xI k v=true->(∃i t,k=Sum.inl i/\v=Value.int i t)\/(∃x t,k=Sum.inr x/\v=Value.str x t)
 |.inl i,v,h=>by
  obtain⟨t,e⟩:=Value.isInt_shape (k:=i) (v:=v) h;exact .inl ⟨i,t,rfl,e⟩
 |.inr x,v,h=>by
  obtain⟨t,e⟩:=Value.isStrOf_shape (x:=x) (v:=v) h;exact .inr ⟨x,t,rfl,e⟩
theorem DY(i:Int)(t:Tok):xI (.inl i) (.int i t)=true:=by simp[xI,OI]
theorem DZ(x:Str)(t:Tok):xI (.inr x) (.str x t)=true:=by simp[xI,KY]
theorem Ml(a b:Int):decide ((Sum.inl a:Key)=Sum.inl b)=(a==b):=by
 by_cases e:a=b
 ·subst e;simp
 ·have h:¬(Sum.inl a:Key)=Sum.inl b:=fun q=>e (KZ q);rw[decide_eq_false h];exact (beq_eq_false_iff_ne.mpr e).symm
theorem Mo(a b:Str):decide ((Sum.inr a:Key)=Sum.inr b)=decide (a=b):=by
 by_cases e:a=b
 ·subst e;simp
 ·have h:¬(Sum.inr a:Key)=Sum.inr b:=fun q=>e (kf q);rw[decide_eq_false h,decide_eq_false e]
theorem Mp(a:Int)(b:Str):decide ((Sum.inl a:Key)=Sum.inr b)=false:=decide_eq_false (fun q=>nomatch q)
theorem Mq(a:Str)(b:Int):decide ((Sum.inr a:Key)=Sum.inl b)=false:=decide_eq_false (fun q=>nomatch q)
def gb(prog:aK)(w:bD):PySem.KeyKind prog w Key where
 is:=xI
 hash:=keyH w
 inj:=fun v a b ha hb=>by
  rcases gG ha with⟨i,t,rfl,rfl⟩|⟨x,t,rfl,rfl⟩
  ·rcases gG hb with⟨j,u,rfl,e⟩|⟨y,u,rfl,e⟩
   ·injection e with e1 _;rw[e1]
   ·exact nomatch e
  ·rcases gG hb with⟨j,u,rfl,e⟩|⟨y,u,rfl,e⟩
   ·exact nomatch e
   ·injection e with e1 _;rw[e1]
 byValue:=fun k v h=>by
  rcases gG h with⟨i,t,rfl,rfl⟩|⟨x,t,rfl,rfl⟩<;>rfl
 pyHash:=fun hv h=>by
  rcases gG hv with⟨i,t,rfl,rfl⟩|⟨x,t,rfl,rfl⟩
  ·exact wpAny_pyHash_int h
  ·exact wpAny_pyHash_str h
 eqBool:=fun hu hv h=>by
  rcases gG hu with⟨i,t,rfl,rfl⟩|⟨x,t,rfl,rfl⟩
  ·rcases gG hv with⟨j,u,rfl,rfl⟩|⟨y,u,rfl,rfl⟩
   ·rw[Ml]at h;exact wpAny_eqBool_int h
   ·rw[Mp]at h;exact SeqAt.EqAt.int_str i t y u _ _ _ _ h
  ·rcases gG hv with⟨j,u,rfl,rfl⟩|⟨y,u,rfl,rfl⟩
   ·rw[Mq]at h;exact SeqAt.EqAt.str_int x t j u _ _ _ _ h
   ·rw[Mo]at h;exact wpAny_eqBool_str h
 «strs»:=fun k x t v h=>by
  rcases gG h with⟨i,u,rfl,e⟩|⟨y,u,rfl,e⟩
  ·exact nomatch e
  ·injection e with e1 _;subst e1
   cases v<;>rfl
theorem zT(prog:aK)(w:bD)(i:Int)(t:Tok):(gb prog w).is (.inl i) (.int i t)=true:=DY i t
theorem zU(prog:aK)(w:bD)(x:Str)(t:Tok):(gb prog w).is (.inr x) (.str x t)=true:=DZ x t
inductive V where
 |non|bl (b:Bool)|int (i:Int)|str (x:Str)|byt (b:Array UInt8)|flt (b:UInt64)|ref (a:aa)|ty (n:String)
 deriving DecidableEq
def RelV:V->af->Prop
 |.non,u=>u=Value.none
 |.bl b,u=>u=Value.bool b
 |.int i,u=>∃t,u=Value.int i t
 |.str x,u=>∃t,u=Value.str x t
 |.byt b,u=>∃t,u=Value.bytes b t
 |.flt b,u=>∃t,u=Value.float b t
 |.ref a,u=>u=Value.ref a
 |.ty n,u=>u=Value.type n
abbrev c5:List V->List af->Prop:=aJ RelV
theorem c5.length{xs:List V}{us:List af}(r:c5 xs us):xs.length=us.length:=aO r
theorem c5.get:∀{xs:List V} {us:List af} {i:Nat} {x:V},c5 xs us->xs[i]?=some x->∃u,us[i]?=some u/\RelV x u
 |_,_,_,_,.nil,e=>by simp at e
 |_,_,0,_,.cons r _,e=>by simp at e;subst e;exact{_,rfl,r}
 |_,_,i+1,x,.cons _ t,e=>by
  obtain⟨u,h1,h2⟩:=c5.get (i:=i) (x:=x) t (by simpa using e);exact{u,by simpa using h1,h2}
theorem c5.set{x:V}{u:af}(r:RelV x u):∀{xs:List V} {us:List af} (i:Nat),c5 xs us->c5 (xs.set i x) (us.set i u)
 |_,_,_,.nil=>.nil
 |_,_,0,.cons _ t=>.cons r t
 |_,_,i+1,.cons q t=>.cons q (c5.set r i t)
theorem c5.append:∀{xs ys:List V} {us Z:List af},c5 xs us->c5 ys Z->c5 (xs++ys) (us++Z)
 |_,_,_,_,.nil,s=>s
 |_,_,_,_,.cons r t,s=>.cons r (c5.append t s)
theorem c5.take:∀{xs:List V} {us:List af} (n:Nat),c5 xs us->c5 (xs.take n) (us.take n)
 |_,_,0,_=>.nil
 |_,_,_+1,.nil=>.nil
 |_,_,n+1,.cons r t=>.cons r (c5.take n t)
theorem c5.drop:∀{xs:List V} {us:List af} (n:Nat),c5 xs us->c5 (xs.drop n) (us.drop n)
 |_,_,0,r=>r
 |_,_,_+1,.nil=>.nil
 |_,_,n+1,.cons _ t=>c5.drop n t
def qW:Option V->Option af->Prop
 |some v,some u=>RelV v u
 |none,none=>True
 |_,_=>False
def KV{κ:Type}:List (κ×V)->List (κ×af)->Prop:=aJ fun (p:κ×V) (q:κ×af)=>p.1=q.1/\RelV p.2 q.2
def kV:Key->V
 |.inl i=>.int i
 |.inr x=>.str x
inductive HO where
 /-- a list -/
 |lst(xs:List V)
 /-- a tuple (never changes) -/
 |tup(xs:List V)
 /-- a dict whose keys are ints and texts; one whose keys are tuples of ints and texts (the empty one is both) -/
 |dK(kvs:List (Key×V))|dT (kvs:List (List Key×V))
 /-- a set of ints: its members, its size -/
 |set(S:Int->Bool)(n:Nat)
 /-- an instance of the class at C, its dict at dx, its attributes -/
 |ins(C dx:aa)(fs:List (Str×V))
 /-- the dict of the instance at x -/
 |own(x:aa)
 /-- the dict of an exception -/
 |xd(fs:List (Str×V))
 /-- a bound method, f of x -/
 |met(f x:aa)
 /-- a range object lo, lo + 1, .. below hi -/
 |rng(lo hi:Int)
 /-- a thing that is known to the object (the script; a dict while a loop walks it): read, never written while it is so -/
 |frz(o:Obj)(u:HO)
 /-- a code object's table -/
 |tbl(ps:Array af)
 /-- any other thing, by what is true of its one object (a def of one's own: SetO a S n := HO.ext fun h => ..) -/
 |ext(φ:cB->Prop)
abbrev Hp:=aa->Option HO
def upd(H:Hp)(a:aa)(o:HO):Hp:=fun b=>if b=a then some o else H b
theorem ah{H:Hp}{a:aa}{o:HO}:upd H a o a=some o:=by unfold upd;rw[if_pos rfl]
theorem aL{H:Hp}{a b:aa}{o:HO}(h:b≠a):upd H a o b=H b:=by unfold upd;rw[if_neg h]
theorem B7{H:Hp}{a:aa}{o u:HO}:upd (upd H a o) a u=upd H a u:=by
 funext b;unfold upd;split<;>rfl
theorem o6{H:Hp}{a b:aa}{o u:HO}(h:H a=some o)(h':H b=some u)(d:o≠u):a≠b:=by
 intro e;subst e;rw[h]at h';exact d (cQ h')
theorem aw{H:Hp}{a b:aa}{o:HO}(h:H a=some o)(h':H b=none):a≠b:=by
 intro e;subst e;rw[h]at h';cases h'
section
variable(P:aK)(w:bD)
def eO(H:Hp)(h:cB)(a:aa):HO->Prop
 |.lst xs=>xs.length<=aB/\∃(Z:List af) (n:Nat),c5 xs Z/\h.get? a=some {cls:=.type "list",data:=.seq Z.toArray n}
 |.tup xs=>xs.length<=aB/\∃Z:List af,c5 xs Z/\qX h a Z.toArray
 |.dK kvs=>kvs.length<=aB/\(a==gc)=false/\∃vs,KV kvs vs/\h.DictOf (gb P w) a vs
 |.dT kvs=>kvs.length<=aB/\(a==gc)=false/\∃xs:List (List Key×aa×af),
   aJ (fun (p:List Key×V) (q:List Key×aa×af)=>p.1=q.1/\H q.2.1=some (.tup (p.1.map kV))/\RelV p.2 q.2.2) kvs xs /\
   ∃o es Y,h.get? a=some o/\o.ExactDict/\o.data=.dict es Y/\es.toList=xs.map (entryOfKey (yu (gb P w)))/\(xs.map (·.1)).Nodup
 |.set S n=>h.SetOf (intKind P w) a S n
 |.ins C dx fs=>H dx=some (.own a)/\fs.length<=1000/\dx≠a/\h.get? a=some (gR C dx) /\
   ∃mA,h.Ns1 dx mA/\(∀f,qW (fs.lookup f) (mA f))/\zV mA (fs.map (·.1))
 |.own _=>∃o,h.get? a=some o
 |.xd fs=>∃mA,h.Ns1 a mA/\∀f,qW (fs.lookup f) (mA f)
 |.rng lo hi=>∃t u v,h.get? a=some {cls:=.type "range",data:=.fields #[.int lo t,.int hi u,.int 1 v]}
 |.frz o u=>h.get? a=some o/\eO H h a u
 |.tbl ps=>h.get? a=some {cls:=.none,data:=.fields ps}
 |.met f x=>h.get? a=some (rW (.ref f) (.ref x))
 |.ext φ=>φ h/\(∃o,h.get? a=some o)/\∀h1 h2:cB,φ h1->(∀o,h1.get? a=some o->h2.get? a=some o)->φ h2
def HOk(H:Hp)(h:cB):Prop:=∀a o,H a=some o->eO P w H h a o
end
section
variable{P:aK}{w:bD}{H H':Hp}{h h':cB}{a:aa}{o:HO}
theorem eO.lt(x:eO P w H h a o):a<h.objs.size:=by
 cases o with
 |lst xs=>obtain⟨_,_,_,_,e⟩:=x;exact aP e
 |tup xs=>obtain⟨_,_,_,p⟩:=x;exact p.lt
 |dK kvs=>obtain⟨_,_,_,_,o,_,_,e,_⟩:=x;exact aP e
 |dT kvs=>obtain⟨_,_,_,_,o,_,_,e,_⟩:=x;exact aP e
 |set S n=>obtain⟨o,_,_,_,e,_⟩:=x;exact aP e
 |ins C dx fs=>obtain⟨_,_,_,e,_⟩:=x;exact aP e
 |own y=>obtain⟨_,e⟩:=x;exact aP e
 |xd fs=>obtain⟨_,⟨_,_,_,e,_⟩,_⟩:=x;exact aP e
 |rng lo hi=>obtain⟨_,_,_,e⟩:=x;exact aP e
 |frz ob u=>obtain⟨e,_⟩:=x;exact aP e
 |tbl ps=>exact aP (show h.get? a=some _ from x)
 |met f y=>exact aP (show h.get? a=some _ from x)
 |ext φ=>obtain⟨_,⟨_,e⟩,_⟩:=x;exact aP e
theorem Paired.mapP{W V:Type}{F G:W->V->Prop}:∀{Y:List W} {Z:List V},aJ F Y Z->(∀a b,F a b->G a b)->aJ G Y Z
 |_,_,.nil,_=>.nil
 |_,_,.cons r t,f=>.cons (f _ _ r) (Paired.mapP t f)
theorem Paired.imp'{W V:Type}{F G:W->V->Prop}(f:∀a b,F a b->G a b){Y:List W}{Z:List V}(r:aJ F Y Z):aJ G Y Z:=Paired.mapP r f
theorem eO.stay(x:eO P w H h a o)(k:∀b u,(b=a\/H b=some (.own a))->h.get? b=some u->h'.get? b=some u)
  (ho:∀b,H b=some (.own a)->H' b=some (.own a)) (ht:∀b xs,H b=some (.tup xs)->H' b=some (.tup xs)):eO P w H' h' a o:=by
 induction o with
 |lst xs=>obtain⟨z,Y,n,r,e⟩:=x;exact{z,Y,n,r,k _ _ (.inl rfl) e}
 |tup xs=>obtain⟨z,Y,r,ob,e,c⟩:=x;exact{z,Y,r,ob,k _ _ (.inl rfl) e,c}
 |dK kvs=>obtain⟨z,y,vs,r,ob,es,Z,e,c⟩:=x;exact{z,y,vs,r,ob,es,Z,k _ _ (.inl rfl) e,c}
 |dT kvs=>
  obtain⟨z,y,xs,r,ob,es,Z,e,c⟩:=x;exact{z,y,xs,Paired.mapP r fun p q z=>{z.1,ht _ _ z.2.1,z.2.2},ob,es,Z,k _ _ (.inl rfl) e,c}
 |set S n=>obtain⟨ob,es,Z,t,e,c⟩:=x;exact{ob,es,Z,t,k _ _ (.inl rfl) e,c}
 |ins C dx fs=>
  obtain⟨d,z,ne,e,mA,⟨od,es,Z,V,c⟩,r⟩:=x;exact{ho _ d,z,ne,k _ _ (.inl rfl) e,mA,{od,es,Z,k _ _ (.inr d) V,c},r}
 |own y=>obtain⟨ob,e⟩:=x;exact{ob,k _ _ (.inl rfl) e}
 |xd fs=>obtain⟨mA,⟨od,es,Z,e,c⟩,r⟩:=x;exact{mA,{od,es,Z,k _ _ (.inl rfl) e,c},r}
 |rng lo hi=>obtain⟨t,u,v,e⟩:=x;exact{t,u,v,k _ _ (.inl rfl) e}
 |frz ob u W=>obtain⟨e,q⟩:=x;exact{k _ _ (.inl rfl) e,W q}
 |tbl ps=>
  have e:h.get? a=some {cls:=.none,data:=.fields ps}:=x;show h'.get? a=some {cls:=.none,data:=.fields ps};exact k a _ (.inl rfl) e
 |met f y=>
  have e:h.get? a=some (rW (.ref f) (.ref y)):=x;show h'.get? a=some (rW (.ref f) (.ref y));exact k a _ (.inl rfl) e
 |ext φ=>obtain⟨p,⟨o,e⟩,st⟩:=x;exact{st _ _ p fun o q=>k _ _ (.inl rfl) q,{o,k _ _ (.inl rfl) e},st}
theorem HOk.lt(x:HOk P w H h)(e:H a=some o):a<h.objs.size:=(x a o e).lt
theorem HOk.fresh(x:HOk P w H h)(e:h.objs.size<=a):H a=none:=by
 cases q:H a with
 |none=>rfl
 |some u=>exact absurd (bj (x.lt q) e) (hU _)
theorem HOk.kept(x:HOk P w H h)(k:∀b u,h.get? b=some u->h'.get? b=some u):HOk P w H h':=fun a o e=>
 (x a o e).stay (fun b u _ q=>k b u q) (fun _ q=>q) fun _ _ q=>q
theorem HOk.laid(x:HOk P w H h)(k:∀b u,h.get? b=some u->h'.get? b=some u)(hp:h.objs.size<=a)(new:eO P w (upd H a o) h' a o):HOk P w (upd H a o) h':=fun b u e=>by
 have Z:=x.fresh hp
 by_cases hb:b=a
 ·subst hb;rw[ah]at e;cases e;exact new
 ·rw[aL hb]at e;exact (x b u e).stay (fun c v _ q=>k c v q) (fun c q=>by rw[aL (aw q Z)];exact q) fun c xs q=>by rw[aL (aw q Z)];exact q
end
def Rd(H:Hp)(a:aa)(u:HO):Prop:=H a=some u\/∃o,H a=some (.frz o u)
theorem Rd.ok{P:aK}{w:bD}{H:Hp}{h:cB}{a:aa}{u:HO}(r:Rd H a u)(x:HOk P w H h):eO P w H h a u:=by
 rcases r with r|⟨o,r⟩
 ·exact x a u r
 ·obtain⟨_,q⟩:=x a _ r;exact q
def Mut:Option HO->Prop
 |some (.lst _)=>True
 |some (.dK _)=>True
 |some (.dT _)=>True
 |some (.set _ _)=>True
 |some (.ins _ _ _)=>True
 |some (.ext _)=>True
 |_=>False
section
variable{P:aK}{w:bD}{H:Hp}{h h':cB}{x e:aa}{o':HO}
theorem HOk.write(ok:HOk P w H h)(V:Mut (H x))(M:e=x\/H e=some (.own x))(k:∀b u,b≠e->h.get? b=some u->h'.get? b=some u)(U:∃u,h'.get? e=some u)
  (new:eO P w (upd H x o') h' x o'):HOk P w (upd H x o') h':=fun b u q=>by
 have Y:∀c y,H c=some (.own y)->c≠x:=fun c y r z=>by subst z;rw[r]at V;exact V
 have W:∀c xs,H c=some (.tup xs)->c≠x:=fun c xs r z=>by subst z;rw[r]at V;exact V
 by_cases hb:b=x
 ·subst hb;rw[ah]at q;cases q;exact new
 ·rw[aL hb]at q
  by_cases Z:b=e
  ·have O:H b=some (.own x):=by
    rcases M with z|z
    ·exact absurd (Z.trans z) hb
    ·rw[Z];exact z
   rw[q]at O;cases O;obtain⟨v,hv⟩:=U;exact{v,by rw[Z];exact hv}
  ·refine (ok b u q).stay (fun c v hc r=>k c v ?_ r) (fun c r=>by rw[aL (Y c b r)];exact r) fun c xs r=>by rw[aL (W c xs r)];exact r
   rcases hc with rfl|hc
   ·exact Z
   ·rintro rfl
    rcases M with z|z
    ·exact Y c b hc z
    ·rw[hc]at z;cases z;exact hb rfl
end
structure Un(fs ex:List aa)(H H':Hp)(h h':cB):Prop where
 keep:∀b o,h.get? b=some o->H b=none->b∉fs->b∉ex->h'.get? b=some o
 slot:∀b o,h.get? b=some o->H b=none->b∈fs->b∉ex->∃sl,h'.get? b=some {o with slots:=sl}
 free:∀b o,h.get? b=some o->H b=none->b∉ex->H' b=none
 there:∀b o,h.get? b=some o->b∉ex->∃o',h'.get? b=some o'
 tups:∀b xs,H b=some (.tup xs)->H' b=some (.tup xs)
 frzs:∀b o u,H b=some (.frz o u)->H' b=some (.frz o u)
 tbls:∀b ps,H b=some (.tbl ps)->∃more,H' b=some (.tbl (ps++more))
section
variable{fs fs' ex ex':List aa}{H H1 H2:Hp}{h h1 h2 h':cB}{a x e:aa}{o:HO}
theorem Un.any(u:Un fs ex H H1 h h1){b:aa}{ob:Obj}(q:h.get? b=some ob)(n:H b=none)(hx:b∉ex):∃sl,h1.get? b=some {ob with slots:=sl}:=by
 by_cases hb:b∈fs
 ·exact u.slot b ob q n hb hx
 ·exact{ob.slots,u.keep b ob q n hb hx}
theorem Un.kept(k:∀b u,h.get? b=some u->h'.get? b=some u):Un fs ex H H h h':=
 {fun b ob q _ _ _=>k b ob q,fun b ob q _ _ _=>{ob.slots,k b ob q},fun _ _ _ n _=>n,fun b ob q _=>{ob,k b ob q},fun _ _ q=>q,fun _ _ _ q=>q,fun _ ps q=>{#[],by rw[q];simp}}
theorem Un.refl:Un fs ex H H h h:=Un.kept fun _ _ q=>q
theorem Un.laid(k:∀b u,h.get? b=some u->h'.get? b=some u)(hp:h.objs.size<=a)(Z:H a=none):Un fs ex H (upd H a o) h h' where
 keep:=fun b u q _ _ _=>k b u q
 slot:=fun b u q _ _ _=>{u.slots,k b u q}
 free:=fun b u q n _=>by rw[aL (aQ (bj (aP q) hp))];exact n
 there:=fun b u q _=>{u,k b u q}
 tups:=fun b xs q=>by rw[aL (aw q Z)];exact q
 frzs:=fun b u xs q=>by rw[aL (aw q Z)];exact q
 tbls:=fun b ps q=>{#[],by rw[aL (aw q Z),q];simp}
theorem Un.write(Y:Mut (H x))(V:e=x\/H e=some (.own x))(k:∀b u,b≠e->h.get? b=some u->h'.get? b=some u)(W:∃u,h'.get? e=some u):Un fs ex H (upd H x o) h h':=by
 have hx:∀b,H b=none->b≠x:=fun b n z=>by subst z;rw[n]at Y;exact Y
 have hb:∀b,H b=none->b≠e:=fun b n z=>by
  subst z
  rcases V with r|r
  ·exact hx b n r
  ·rw[n]at r;cases r
 have hm:∀b u,H b=some u->¬Mut (some u)->b≠x:=fun b u q nm z=>by subst z;rw[q]at Y;exact nm Y
 refine{fun b u q n _ _=>k b u (hb b n) q,fun b u q n _ _=>{u.slots,k b u (hb b n) q},fun b u q n _=>by rw[aL (hx b n)];exact n,fun b u q _=>?_,
  fun b xs q=>by rw[aL (hm b _ q fun z=>z)];exact q,fun b u xs q=>by rw[aL (hm b _ q fun z=>z)];exact q,fun b ps q=>{#[],by rw[aL (hm b _ q fun z=>z),q];simp}}
 by_cases Z:b=e
 ·subst Z;exact W
 ·exact{u,k b u Z q}
end
def trk(h:cB)(H:Hp):List aa:=(jz h.objs.size).filter fun a=>(H a).isSome
def yv(h:cB)(H:Hp):cB:=o7 h (trk h H)
theorem D0(h:cB)(H:Hp):(yv h H).objs.size=h.objs.size:=PySem.W.hideAll_size _ _
theorem Fk{h:cB}{H:Hp}{b:aa}{o:Obj}(e:h.get? b=some o)(n:H b=none):(yv h H).get? b=some o:=
 AS _ e fun hm=>by
  have q:(H b).isSome=true:=(xi.mp hm).2;rw[n]at q;simp at q
theorem Ja{h:cB}{H:Hp}{b:aa}{o:Obj}(e:(yv h H).get? b=some o):h.get? b=some o/\H b=none:=by
 have e':h.get? b=some o:=A3 (trk h H) e;refine{e',?_}
 cases q:H b with
 |none=>rfl
 |some x=>
  have hm:b∈trk h H:=xi.mpr {rh.mpr (aP e'),by simp[q]};have z:(yv h H).get? b=none:=PySem.W.hideAll_none (trk h H) hm;rw[z]at e;cases e
structure Mod(K:ae)(mg:Str->Option af)(base:cB):Prop where
 kin:K.In base
 glob:base.Ns bA mg
 blt:∃mb,base.Ns Mr mb/\∀x:Str,x≠"__name__"->mb x=fg x
 nolimit:base.NoLimit
structure Cx where
 prog:aK
 w:bD
 K:ae
 mg:Str->Option af
 base:cB
 A:bX
 N:List Str
 s₀:ak
 H₀:Hp
 env:Env
 outer:List Env
 stack:List Env
 ex:List aa
 fn:Str->Bool
 calm:Bool
 pn:List (aa×Obj)
 xe:af->ak->Prop
def frs(l:List Env):List aa:=l.filterMap (·.frame)
abbrev Cx.fs(X:Cx):List aa:=frs X.outer
def Vis(sc:lZ)(x:Str):Prop:=sc.names.lookup x=some .local\/sc.names.lookup x=some .cell\/sc.names.lookup x=some .free
def Loc(sc:lZ)(x:Str):Prop:=sc.names.lookup x=some .local\/sc.names.lookup x=some .cell
def Look(env:Env)(h:cB)(m:Str->Option af)(x:Str)(u:af):Prop:=
 (env.kindOf x=some .local/\m x=some u)\/((env.kindOf x=some .cell\/env.kindOf x=some .free)/\∃c,env.cells.lookup x=some c/\h.IsCell c (some u))
structure Cx.Ok(X:Cx):Prop where
 mod:Mod X.K X.mg X.base
 kind:X.env.scope.kind=.function
 glob:X.env.globals=bA
 blt:X.env.builtins=Mr
 above:X.s₀.heap.objs.size<=X.env.locals
 inj:∀x y c,X.env.cells.lookup x=some c->X.env.cells.lookup y=some c->x=y
 has:∀x,(X.env.kindOf x=some .cell\/X.env.kindOf x=some .free)->∃c,X.env.cells.lookup x=some c
 cab:∀x c,X.fn x=true->X.env.cells.lookup x=some c->X.s₀.heap.objs.size<=c
 hd:X.calm=true->X.A.handled=none
 frames:X.A.frames=some X.stack
 stk:X.stack=X.outer\/(X.stack=X.env::X.outer/\X.env.frame=some X.env.locals)
 exf:∀b∈X.ex,b≠X.env.locals/\∀x c,X.env.cells.lookup x=some c->c≠b
 bs:∀b o,X.base.get? b=some o->X.s₀.heap.get? b=some o/\X.H₀ b=none
 bsz:X.base.objs.size<=X.s₀.heap.objs.size
 noex:∀b o,X.base.get? b=some o->b∉X.ex
 exfs:∀b∈X.ex,b∉X.fs
 funs:X.s₀.heap.FunFrames X.base X.outer
 frf:∀b∈X.fs,X.H₀ b=none
structure Inv(X:Cx)(pins:List (aa×Obj))(σ:List (Option V))(H:Hp)(s:ak):Prop where
 ok:X.Ok
 os:s.os=X.s₀.os
 bare:pP s.gens
 base:Un X.fs X.ex X.H₀ H X.s₀.heap s.heap
 loc:∃m,s.heap.Ns X.env.locals m/\∀(i:Nat) (x:Str) (v:V),X.N[i]?=some x->σ[i]?=some (some v)->Vis X.env.scope x->∃u,RelV v u/\Look X.env s.heap m x u
 cell:∀x c,X.env.cells.lookup x=some c->∃v,s.heap.IsCell c v
 free:H X.env.locals=none
 freeC:∀x c,X.env.cells.lookup x=some c->H c=none
 pin:∀p∈X.pn++pins,s.heap.get? p.1=some p.2/\H p.1=none/\p.1≠X.env.locals/\p.1∉X.fs/\∀v,p.2.data≠.cell v
 hok:HOk X.prog X.w H s.heap
 len:σ.length=X.N.length
section
variable{X:Cx}{pins:List (aa×Obj)}{σ:List (Option V)}{H H':Hp}{s:ak}{h':cB}
theorem Cx.Ok.nofr(ok:X.Ok){b:aa}{o:Obj}(e:X.base.get? b=some o):b∉X.fs:=fun hb=>by
 have:=(ok.funs.mem hb).1;rw[e]at this;cases this
theorem Inv.bs(I:Inv X pins σ H s):∀b o,X.base.get? b=some o->s.heap.get? b=some o/\H b=none:=fun b o e=>
 {I.base.keep b o (I.ok.bs b o e).1 (I.ok.bs b o e).2 (I.ok.nofr e) (I.ok.noex b o e),I.base.free b o (I.ok.bs b o e).1 (I.ok.bs b o e).2 (I.ok.noex b o e)}
theorem Inv.bk(I:Inv X pins σ H s):∀b o,X.base.get? b=some o->s.heap.get? b=some o:=fun b o e=>(I.bs b o e).1
theorem Inv.mod(I:Inv X pins σ H s):Mod X.K X.mg X.base:=I.ok.mod
theorem Inv.kIn(I:Inv X pins σ H s):X.K.In s.heap:=I.ok.mod.kin.keeps I.bk
theorem Inv.fr(I:Inv X pins σ H s):∃m,Fr X.base X.env.locals s.heap m:=
 let ⟨m,Z,_⟩:=I.loc
 {m,Z,I.bk,dA I.ok.bsz I.ok.above}
theorem Inv.lt(I:Inv X pins σ H s):X.env.locals<s.heap.objs.size:=let ⟨_,Z,_⟩:=I.loc;Z.lt
theorem Inv.sz(I:Inv X pins σ H s):X.s₀.heap.objs.size<=s.heap.objs.size:=dA I.ok.above (l8 I.lt)
theorem Inv.nofs(I:Inv X pins σ H s){a:aa}(h:s.heap.objs.size<=a):a∉X.fs:=fun hb=>by
 obtain⟨_,o,ho,_⟩:=I.ok.funs.mem hb;exact absurd (bj (aP ho) (dA I.sz h)) (hU _)
theorem Inv.cne(I:Inv X pins σ H s):∀x c,X.env.cells.lookup x=some c->c≠X.env.locals:=fun x c e z=>by
 obtain⟨v,o,ho,hd⟩:=I.cell x c e;obtain⟨m,⟨o',es,W,Y,Z,_⟩,_⟩:=I.loc;rw[z,Y]at ho;cases ho;rw[Z]at hd;cases hd
theorem Inv.funs(I:Inv X pins σ H s):s.heap.FunFrames X.base X.outer:=by
 have all:∀(l:List Env),(∀b∈frs l,b∈X.fs)->X.s₀.heap.FunFrames X.base l->s.heap.FunFrames X.base l:=by
  intro l
  induction l with
  |nil=>intro _ _;trivial
  |cons env r V=>
   intro hs hl;obtain⟨hk,⟨L,o,Z,W,ho,hd⟩,hr⟩:=hl;have Y:L∈X.fs:=hs L (by unfold frs;rw[rR,Z];exact aC);obtain⟨sl,e⟩:=I.base.slot L o ho (I.ok.frf L Y) Y fun z=>I.ok.exfs L z Y;exact{hk,{L,_,Z,W,e,hd},V (fun b hb=>hs b (by unfold frs;rw[rR,Z];exact ag _ hb)) hr}
 exact all X.outer (fun _ hb=>hb) I.ok.funs
theorem Inv.stack(I:Inv X pins σ H s):s.heap.FunFrames X.base X.stack:=by
 rcases I.ok.stk with e|⟨e,Y⟩
 ·rw[e];exact I.funs
 ·rw[e];obtain⟨m,Z,_⟩:=I.loc;refine .cons (by rw[I.ok.kind];decide) Y Z ?_ I.funs;exact Heap.get?_none_of_le (dA I.ok.bsz I.ok.above)
theorem Inv.stkSub(I:Inv X pins σ H s):∀b∈frs X.stack,b∈X.env.locals::X.fs:=fun b hb=>by
 rcases I.ok.stk with e|⟨e,Z⟩
 ·rw[e]at hb;exact ag _ hb
 ·rw[e]at hb;unfold frs at hb;rw[rR,Z]at hb;exact hb
theorem Inv.stkFree(I:Inv X pins σ H s):∀b∈frs X.stack,H b=none:=fun b hb=>by
 rcases ar.mp (I.stkSub b hb) with e|hb
 ·rw[e];exact I.free
 ·obtain⟨_,o,ho,_⟩:=I.ok.funs.mem hb;exact I.base.free b o ho (I.ok.frf b hb) fun z=>I.ok.exfs b z hb
theorem Inv.step{g':Array GenState}{t':Nat}{d':Drawn}{ch:List aa}(I:Inv X pins σ H s)
  (Z:∀b∈ch,(b∈X.ex\/X.s₀.heap.objs.size<=b)/\b≠X.env.locals/\(∀x c,X.env.cells.lookup x=some c->c≠b)/\∀p∈X.pn++pins,p.1≠b)
  (keep:∀b o,b≠X.env.locals->b∉X.fs->b∉ch->s.heap.get? b=some o->H b=none->h'.get? b=some o)
  (slot:∀b o,b≠X.env.locals->b∈X.fs->b∉ch->s.heap.get? b=some o->H b=none->∃sl,h'.get? b=some {o with slots:=sl}) (free:∀b o,b∉ch->s.heap.get? b=some o->H b=none->H' b=none)
  (there:∀b o,b∉ch->s.heap.get? b=some o->∃o',h'.get? b=some o')
  (tups:∀b xs,H b=some (.tup xs)->H' b=some (.tup xs)) (frzs:∀b o u,H b=some (.frz o u)->H' b=some (.frz o u)) (tbls:∀b ps,H b=some (.tbl ps)->∃more,H' b=some (.tbl (ps++more)))
  (ns:∀m,s.heap.Ns X.env.locals m->h'.Ns X.env.locals m) (hok:HOk X.prog X.w H' h') (D:pP g') :
  Inv X pins σ H' {s with heap:=h',gens:=g',drawn:=d',toks:=t'}:=by
 have O:∀b o,X.s₀.heap.get? b=some o->b≠X.env.locals:=fun b o e=>aQ (bj (aP e) I.ok.above);have V:∀b o,X.s₀.heap.get? b=some o->b∉X.ex->b∉ch:=fun b o e hx hb=>by
  rcases (Z b hb).1 with z|z
  ·exact hx z
  ·exact absurd (bj (aP e) z) (hU _)
 have Y:∀x c,X.env.cells.lookup x=some c->∀v,s.heap.IsCell c v->h'.IsCell c v:=fun x c e v ⟨o,ho,hd⟩=>by
  have W:c∉ch:=fun z=>(Z c z).2.2.1 x c e rfl
  by_cases hc:c∈X.fs
  ·obtain⟨sl,q⟩:=slot c o (I.cne x c e) hc W ho (I.freeC x c e);exact{_,q,hd}
  ·exact{o,keep c o (I.cne x c e) hc W ho (I.freeC x c e),hd}
 refine{I.ok,I.os,D,{fun b o e n hb hx=>?_,fun b o e n hb hx=>?_,fun b o e n hx=>?_,fun b o e hx=>?_,fun b xs e=>tups b xs (I.base.tups b xs e),fun b o xs e=>frzs b o xs (I.base.frzs b o xs e),fun b ps e=>?_},?_,fun x c e=>?_,?_,fun x c e=>?_,fun p hp=>?_,hok,I.len}
 ·exact keep b o (O b o e) hb (V b o e hx) (I.base.keep b o e n hb hx) (I.base.free b o e n hx)
 ·obtain⟨sl,e1⟩:=I.base.slot b o e n hb hx;obtain⟨M,U⟩:=slot b _ (O b o e) hb (V b o e hx) e1 (I.base.free b o e n hx);exact⟨M,U⟩
 ·obtain⟨o',e1⟩:=I.base.there b o e hx;exact free b o' (V b o e hx) e1 (I.base.free b o e n hx)
 ·obtain⟨o',e1⟩:=I.base.there b o e hx;exact there b o' (V b o e hx) e1
 ·obtain⟨m1,e1⟩:=I.base.tbls b ps e;obtain⟨g,U⟩:=tbls b _ e1;exact{m1++g,by rw[U,Array.append_assoc]}
 ·obtain⟨m,hn,hl⟩:=I.loc;refine{m,ns m hn,fun i x v e1 U e3=>?_};obtain⟨u,r,l⟩:=hl i x v e1 U e3;refine{u,r,?_}
  rcases l with l|⟨k,c,e,z⟩
  ·exact .inl l
  ·exact .inr {k,c,e,Y x c e _ z}
 ·obtain⟨v,z⟩:=I.cell x c e;exact{v,Y x c e v z}
 ·obtain⟨m,⟨o,_,_,ho,_⟩,_⟩:=I.loc;exact free _ o (fun z=>(Z _ z).2.1 rfl) ho I.free
 ·obtain⟨v,o,ho,hd⟩:=I.cell x c e;exact free c o (fun z=>(Z c z).2.2.1 x c e rfl) ho (I.freeC x c e)
 ·obtain⟨e,n,ne,J,d⟩:=I.pin p hp;have W:p.1∉ch:=fun z=>(Z p.1 z).2.2.2 p hp rfl;exact{keep p.1 p.2 ne J W e n,free p.1 p.2 W e n,ne,J,d}
theorem Inv.un{t':Nat}(I:Inv X pins σ H s)(u:Un X.fs [] H H' s.heap h')(hok:HOk X.prog X.w H' h'):Inv X pins σ H' {s with heap:=h',toks:=t'}:=by
 obtain⟨m,⟨o,es,M,ho,r⟩,_⟩:=id I.loc;obtain⟨sl,U⟩:=u.any ho I.free (by simp);exact I.step (g':=s.gens) (d':=s.drawn) (ch:=[]) (fun _ z=>nomatch z) (fun b o _ hb _ e n=>u.keep b o e n hb (by simp)) (fun b o _ hb _ e n=>u.slot b o e n hb (by simp)) (fun b o _ e n=>u.free b o e n (by simp)) (fun b o _ e=>u.there b o e (by simp)) u.tups u.frzs u.tbls (fun O hm=>by
  obtain⟨o',Y,W,Z,V⟩:=hm;rw[ho]at Z;cases Z;exact{_,Y,W,U,V}) hok I.bare
theorem Inv.call{g':Array GenState}{t':Nat}{d':Drawn}{ch:List aa}(I:Inv X pins σ H s)(u:Un (frs X.stack) ch H H' s.heap h')(hok:HOk X.prog X.w H' h')(O:pP g')
  (Z:∀b∈ch,(b∈X.ex\/X.s₀.heap.objs.size<=b)/\b≠X.env.locals/\(∀x c,X.env.cells.lookup x=some c->c≠b)/\∀p∈X.pn++pins,p.1≠b) :
  Inv X pins σ H' {s with heap:=h',gens:=g',drawn:=d',toks:=t'}:=by
 obtain⟨m,⟨o,es,D,ho,r⟩,_⟩:=id I.loc;obtain⟨sl,U⟩:=u.any ho I.free fun z=>(Z _ z).2.1 rfl;exact I.step (ch:=ch) Z (fun b o U hb hc e n=>u.keep b o e n (fun z=>(ar.mp (I.stkSub b z)).elim U hb) hc) (fun b o _ _ hc e n=>u.any e n hc) (fun b o hc e n=>u.free b o e n hc) (fun b o hc e=>u.there b o e hc) u.tups u.frzs u.tbls (fun J hm=>by
  obtain⟨o',W,V,Y,M⟩:=hm;rw[ho]at Y;cases Y;exact{_,W,V,U,M}) hok O
theorem Inv.turned{t':Nat}{it:aa}(I:Inv X pins σ H s)(k:∀b o,b≠it->s.heap.get? b=some o->h'.get? b=some o)(U:H it=none)(Y:it≠X.env.locals)
  (h1:it∈X.ex\/X.s₀.heap.objs.size<=it) (h2:∀x c,X.env.cells.lookup x=some c->c≠it) (V:∀p∈X.pn++pins,p.1≠it):Inv X pins σ H {s with heap:=h',toks:=t'}:=by
 have Z:∀b u,H b=some u->b≠it:=fun b u e z=>by rw[z,U]at e;cases e
 refine I.step (g':=s.gens) (d':=s.drawn) (ch:=[it]) (fun b hb=>?_) (fun b o _ _ hc e _=>k b o (fun z=>hc (by simp[z])) e) (fun b o _ _ hc e _=>{o.slots,k b o (fun z=>hc (by simp[z])) e}) (fun _ _ _ _ n=>n)
  (fun b o hc e=>{o,k b o (fun z=>hc (by simp[z])) e}) (fun _ _ e=>e) (fun _ _ _ e=>e) (fun b ps e=>{#[],by rw[e];simp}) (fun m hm=>?_) (fun b u e=>?_) I.bare
 ·have e:b=it:=by simpa using hb
  subst e;exact⟨h1,Y,h2,V⟩
 ·obtain⟨o,es,W,ho,r⟩:=hm;exact{o,es,W,k _ o (gm Y) ho,r}
 ·refine (I.hok b u e).stay (fun c v hc q=>k c v ?_ q) (fun _ q=>q) fun _ _ q=>q
  rcases hc with z|z
  ·rw[z];exact Z b u e
  ·exact Z c _ z
theorem Inv.tok(I:Inv X pins σ H s)(t:Nat):Inv X pins σ H {s with toks:=t}:=I.un (h':=s.heap) (t':=t) Un.refl I.hok
theorem Inv.kept{t':Nat}(I:Inv X pins σ H s)(k:∀b u,s.heap.get? b=some u->h'.get? b=some u):Inv X pins σ H {s with heap:=h',toks:=t'}:=I.un (Un.kept k) (I.hok.kept k)
theorem Inv.laid{a:aa}{o:HO}{t':Nat}(I:Inv X pins σ H s)(k:∀b u,s.heap.get? b=some u->h'.get? b=some u)(hp:s.heap.objs.size<=a)(new:eO X.prog X.w (upd H a o) h' a o) :
  Inv X pins σ (upd H a o) {s with heap:=h',toks:=t'}:=I.un (Un.laid k hp (I.hok.fresh hp)) (I.hok.laid k hp new)
theorem Inv.write{x e:aa}{o:HO}{t':Nat}(I:Inv X pins σ H s)(W:Mut (H x))(Y:e=x\/H e=some (.own x))(k:∀b u,b≠e->s.heap.get? b=some u->h'.get? b=some u)(Z:∃u,h'.get? e=some u)
  (new:eO X.prog X.w (upd H x o) h' x o):Inv X pins σ (upd H x o) {s with heap:=h',toks:=t'}:=I.un (Un.write W Y k Z) (I.hok.write W Y k Z new)
theorem Inv.weak{Z:List (Option V)}(I:Inv X pins σ H s)(hl:Z.length=σ.length)(w:∀(i:Nat) v,Z[i]?=some (some v)->σ[i]?=some (some v)):Inv X pins Z H s:=
 {I.ok,I.os,I.bare,I.base,let ⟨m,W,Y⟩:=I.loc;{m,W,fun i x v e1 U e3=>Y i x v e1 (w i v U) e3},I.cell,I.free,I.freeC,I.pin,I.hok,hl.trans I.len}
theorem Inv.pins_of{Z:List (aa×Obj)}(I:Inv X pins σ H s)(h:∀p∈Z,s.heap.get? p.1=some p.2/\H p.1=none/\p.1≠X.env.locals/\p.1∉X.fs/\∀v,p.2.data≠.cell v):Inv X Z σ H s:=
 {I.ok,I.os,I.bare,I.base,I.loc,I.cell,I.free,I.freeC,fun p hp=>(bM.mp hp).elim (fun z=>I.pin p (gZ _ z)) (h p),I.hok,I.len}
theorem vO{N:List Str}(Y:N.Nodup){i j:Nat}{x:Str}(a:N[i]?=some x)(b:N[j]?=some x):i=j:=by
 obtain⟨h1,e1⟩:=aF.mp a;obtain⟨h2,Z⟩:=aF.mp b;exact (List.getElem_inj Y).mp (e1.trans Z.symm)
theorem xJ{M:Jb}{A:bX}{E:af->ak->Prop}{i:Nat}{x:Str}{v:V}{u:af}{Q:Unit->ak->Prop}(I:Inv X pins σ H s)(hN:X.N.Nodup)(hi:X.N[i]?=some x)(hx:Loc X.env.scope x)(r:RelV v u)
  (h:∀s',Inv X pins (σ.set i (some v)) H s'->(∃a,uv a s.heap s'.heap/\(a=X.env.locals\/X.env.cells.lookup x=some a))->Q () s') (hf:X.fn x=true\/X.env.scope.names.lookup x=some .local:=by first|exact .inl rfl|exact .inr rfl|assumption):aW M A (storeName X.env x u) Q E s:=by
 obtain⟨m,hn,hl⟩:=id I.loc;have g:(X.env.scope.kind==.class||(X.env.scope.kind==.module&&X.env.locals != X.env.globals))=false:=by rw[I.ok.kind];rfl
 have U:i<σ.length:=by rw[I.len];exact (aF.mp hi).1
 have cne:=I.cne;have Z:∀{a:aa} {h':cB},(∃o,s.heap.get? a=some o/\H a=none)->uv a s.heap h'->HOk X.prog X.w H h':=fun {a h'} ha hs b ob e=>by
  obtain⟨_,_,Y⟩:=ha;refine (I.hok b ob e).stay (fun c w' hc q=>(hs.2 c ?_).trans q) (fun _ q=>q) fun _ _ q=>q;rintro rfl
  rcases hc with rfl|hc
  ·rw[Y]at e;cases e
  ·rw[Y]at hc;cases hc
 rcases hx with hk|hk
 ·refine wpAny_storeName_local hk hn (fun h' ca hs=>?_) g;obtain⟨oL,_,_,bW,_⟩:=id hn;refine h _ {I.ok,I.os,I.bare,{fun b o e n hb hx=>?_,fun b o e n hb hx=>?_,I.base.free,fun b o e hx=>?_,I.base.tups,I.base.frzs,I.base.tbls},{_,ca,fun j y v' e1 W e3=>?_},fun y c e=>?_,I.free,I.freeC,fun p hp=>?_,Z ⟨oL,bW,I.free⟩ hs,by simpa using I.len} {_,hs,.inl rfl}
  ·exact (hs.2 b (aQ (bj (aP e) I.ok.above))).trans (I.base.keep b o e n hb hx)
  ·obtain⟨sl,e1⟩:=I.base.slot b o e n hb hx;exact{sl,(hs.2 b (aQ (bj (aP e) I.ok.above))).trans e1}
  ·obtain⟨o',e1⟩:=I.base.there b o e hx;exact{o',(hs.2 b (aQ (bj (aP e) I.ok.above))).trans e1}
  ·by_cases O:j=i
   ·subst O;rw[hi]at e1;cases e1;rw[fV U]at W
    cases W;exact{u,r,.inl {hk,by simp}}
   ·rw[iV (gm O)]at W;obtain⟨u',r',q⟩:=hl j y v' e1 W e3;refine{u',r',?_}
    rcases q with⟨k,e⟩|⟨k,c,e,z⟩
    ·refine .inl {k,?_};have:y≠x:=fun e=>O (vO hN e1 (e ▸ hi));simp[this,e]
    ·exact .inr {k,c,e,z.sameBut hs (cne y c e)}
  ·obtain⟨w',z⟩:=I.cell y c e;exact{w',z.sameBut hs (cne y c e)}
  ·obtain⟨e,n,ne,nf,d⟩:=I.pin p hp;exact{(hs.2 p.1 ne).trans e,n,ne,nf,d}
 ·have J:X.fn x=true:=by
   rcases hf with z|z
   ·exact z
   ·rw[z]at hk;cases hk
  obtain⟨c,hc⟩:=I.ok.has x (.inl hk);obtain⟨w',z⟩:=I.cell x c hc;refine wpAny_storeName_cell I.ok.kind hk hc z (fun h' D hs=>?_);obtain⟨oc,ce,ci⟩:=id z;refine h {s with heap:=h'} {I.ok,I.os,I.bare,{fun b o e n hb hx=>?_,fun b o e n hb hx=>?_,I.base.free,fun b o e hx=>?_,I.base.tups,I.base.frzs,I.base.tbls},{m,hn.sameBut hs (gm (cne x c hc)),fun j y v' e1 W e3=>?_},fun y c' e=>?_,I.free,I.freeC,fun p hp=>?_,Z {oc,ce,I.freeC x c hc} hs,by simpa using I.len} {c,hs,.inr hc}
  ·exact (hs.2 b (aQ (bj (aP e) (I.ok.cab x c J hc)))).trans (I.base.keep b o e n hb hx)
  ·obtain⟨sl,e1⟩:=I.base.slot b o e n hb hx;exact{sl,(hs.2 b (aQ (bj (aP e) (I.ok.cab x c J hc)))).trans e1}
  ·obtain⟨o',e1⟩:=I.base.there b o e hx;exact{o',(hs.2 b (aQ (bj (aP e) (I.ok.cab x c J hc)))).trans e1}
  ·by_cases O:j=i
   ·subst O;rw[hi]at e1;cases e1;rw[fV U]at W
    cases W;exact{u,r,.inr {.inl hk,c,hc,D}}
   ·rw[iV (gm O)]at W;obtain⟨u',r',q⟩:=hl j y v' e1 W e3;refine{u',r',?_}
    rcases q with q|⟨k,c',e,z'⟩
    ·exact .inl q
    ·refine .inr {k,c',e,z'.sameBut hs ?_};rintro rfl;exact O (vO hN e1 (I.ok.inj _ _ _ e hc ▸ hi))
  ·by_cases cd:c'=c
   ·subst cd;exact{_,D}
   ·obtain⟨w2,z2⟩:=I.cell y c' e;exact{w2,z2.sameBut hs cd}
  ·obtain⟨e,n,ne,nf,d⟩:=I.pin p hp;refine{(hs.2 p.1 ?_).trans e,n,ne,nf,d};intro q;rw[q,ce]at e;have q':oc=p.2:=cQ e;exact d w' (by rw[<- q'];exact ci)
theorem rX{M:Jb}{A:bX}{E:af->ak->Prop}{i:Nat}{x:Str}{v:V}{u:af}{Q:Unit->ak->Prop}(I:Inv X pins σ H s)(W:X.N.Nodup)(hi:X.N[i]?=some x)(hx:Loc X.env.scope x)(r:RelV v u)
  (h:∀s',Inv X pins (σ.set i (some v)) H s'->Q () s') (Z:X.fn x=true\/X.env.scope.names.lookup x=some .local:=by first|exact .inl rfl|exact .inr rfl|assumption):aW M A (storeName X.env x u) Q E s:=
 xJ I W hi hx r (fun s' Y _=>h s' Y) Z
theorem Inv.call'{s':ak}{ch:List aa}(I:Inv X pins σ H s)(ho:s'.os=s.os)(u:Un (frs X.stack) ch H H' s.heap s'.heap)(hok:HOk X.prog X.w H' s'.heap)(Y:pP s'.gens)
  (Z:∀b∈ch,(b∈X.ex\/X.s₀.heap.objs.size<=b)/\b≠X.env.locals/\(∀x c,X.env.cells.lookup x=some c->c≠b)/\∀p∈X.pn++pins,p.1≠b):Inv X pins σ H' s':=by
 obtain⟨h',g',d',t',o'⟩:=s';have e:o'=s.os:=ho;subst e;exact I.call (g':=g') (t':=t') (d':=d') u hok Y Z
end
abbrev XK:=af->Option aa->Hp->Prop
abbrev St:=List (Option V)
abbrev VK:=V->Hp->Prop
abbrev TE:=St->Hp->VK->Prop
abbrev TT:=St->Hp->(Bool->Hp->Prop)->Prop
abbrev TA:=St->Hp->(List V->Hp->Prop)->Prop
structure mY where
 nx:St->Hp->Prop
 rt:VK
 bk:St->Hp->Prop:=fun _ _=>False
 ct:St->Hp->Prop:=fun _ _=>False
abbrev TS:=mY->St->Hp->Prop
def EP(X:Cx)(pins:List (aa×Obj))(σ:St)(Q:VK)(u:af)(s':ak):Prop:=∃v H',Inv X pins σ H' s'/\RelV v u/\Q v H'
def TP(X:Cx)(pins:List (aa×Obj))(σ:St)(Q:Bool->Hp->Prop)(b:Bool)(s':ak):Prop:=∃H',Inv X pins σ H' s'/\Q b H'
def AP(X:Cx)(pins:List (aa×Obj))(σ:St)(Q:List V->Hp->Prop)(us:List af)(s':ak):Prop:=∃vs H',Inv X pins σ H' s'/\c5 vs us/\Q vs H'
def SP(X:Cx)(pins:List (aa×Obj))(D:mY)(f:Flow)(s':ak):Prop:=
 match f with
 |.next=>∃Z H',Inv X pins Z H' s'/\D.nx Z H'
 |.brk=>∃Z H',Inv X pins Z H' s'/\D.bk Z H'
 |.cont=>∃Z H',Inv X pins Z H' s'/\D.ct Z H'
 |.ret u=>∃v Z H',Inv X pins Z H' s'/\RelV v u/\D.rt v H'
def PE(X:Cx)(e:cS)(t:TE):Prop:=
 ∀(pins:List (aa×Obj)) (s:ak) (σ:St) (H:Hp) (Q:VK),Inv X pins σ H s->t σ H Q->aW (aZ X.prog X.w) X.A (gf e X.env) (EP X pins σ Q) X.xe s
def PT(X:Cx)(e:cS)(t:TT):Prop:=
 ∀(pins:List (aa×Obj)) (s:ak) (σ:St) (H:Hp) (Q:Bool->Hp->Prop),Inv X pins σ H s->t σ H Q->aW (aZ X.prog X.w) X.A (Fl e X.env (gf e X.env)) (TP X pins σ Q) X.xe s
def PW(X:Cx)(e:cS)(t:TT):Prop:=
 ∀(Z:Sem af) (pins:List (aa×Obj)) (s:ak) (σ:St) (H:Hp) (Q:Bool->Hp->Prop),Inv X pins σ H s->t σ H Q->aW (aZ X.prog X.w) X.A (Fl e X.env Z) (TP X pins σ Q) X.xe s
theorem PW.pt{X:Cx}{e:cS}{t:TT}(h:PW X e t):PT X e t:=h _
def PA(X:Cx)(es:List cS)(t:TA):Prop:=
 ∀(pos:Pos) (pins:List (aa×Obj)) (s:ak) (σ:St) (H:Hp) (Q:List V->Hp->Prop),Inv X pins σ H s->t σ H Q->aW (aZ X.prog X.w) X.A (spliced (jm pos (cE es X.env))) (AP X pins σ Q) X.xe s
def PS(X:Cx)(st:c9)(t:TS):Prop:=
 ∀(pins:List (aa×Obj)) (s:ak) (σ:St) (H:Hp) (D:mY),Inv X pins σ H s->t D σ H->aW (aZ X.prog X.w) X.A (exec st X.env) (SP X pins D) X.xe s
def PSs(X:Cx)(st:List c9)(t:TS):Prop:=
 ∀(pins:List (aa×Obj)) (s:ak) (σ:St) (H:Hp) (D:mY),Inv X pins σ H s->t D σ H->aW (aZ X.prog X.w) X.A (execs st X.env) (SP X pins D) X.xe s
theorem thn{Y:Type}{t:Sem Y}{Q Z:Y->ak->Prop}{M:Jb}{A:bX}{E:af->ak->Prop}{s:ak}(h:aW M A t Q E s)(W:∀a s,Q a s->Z a s):aW M A t Z E s:=eV h W fun _ _ x=>x
section
variable{X:Cx}
theorem bin{a b:cS}{ta tb:TE}(ha:PE X a ta)(hb:PE X b tb){pins:List (aa×Obj)}{s:ak}{σ:St}{H:Hp}{R:V->V->Hp->Prop}(I:Inv X pins σ H s)(h:ta σ H fun x H1=>tb σ H1 fun y H2=>R x y H2)
  {W:Type} {Q:W->ak->Prop} {f:af->af->Sem W}
  (D:∀v u s2 x y H2,Inv X pins σ H2 s2->RelV x v->RelV y u->R x y H2->aW (aZ X.prog X.w) X.A (f v u) Q X.xe s2) :
  aW (aZ X.prog X.w) X.A (gf a X.env) (fun v Z=>aW (aZ X.prog X.w) X.A (gf b X.env) (fun u Y=>aW (aZ X.prog X.w) X.A (f v u) Q X.xe Y) X.xe Z) X.xe s:=by
 refine thn (ha pins s σ H _ I h) fun v U ⟨x,H1,O,r1,z⟩=>?_;refine thn (hb pins U σ H1 _ O z) fun u s2 ⟨y,H2,J,r2,M⟩=>?_;exact D v u s2 x y H2 J r1 r2 M
set_option genSizeOf false
set_option genInjectivity false
inductive TVar(i:Nat)(σ:St)(H:Hp)(Q:VK):Prop where
 |mk(v:V)(h:σ[i]?=some (some v))(q:Q v H):TVar i σ H Q
def vP(i:Nat):TE:=fun σ H Q=>TVar i σ H Q
def tC(v:V):TE:=fun _ H Q=>Q v H
theorem Mu{i:Nat}{x:Str}{pos:Pos}(V:X.N[i]?=some x)(hv:Vis X.env.scope x)(hd:(x==("__debug__":Str))=false:=by decide)(Y:(x==("__classdict__":Str))=false:=by decide):PE X (.Name x pos) (vP i):=by
 intro pins s σ H Q I h;obtain⟨v,e,h⟩:=h;obtain⟨m,W,hl⟩:=I.loc;obtain⟨u,r,l⟩:=hl i x v V e hv;have fin:EP X pins σ Q u s:=⟨v,H,I,r,h⟩
 rcases l with⟨hk,hm⟩|⟨hk,c,hc,Z⟩
 ·exact Mv (wpAny_loadName_local I.ok.kind hk W hm fin) hd
 ·rcases hk with hk|hk
  ·exact Mv (wpAny_loadName_cell I.ok.kind hk hc Z fin) hd
  ·exact Mv (wpAny_loadName_free I.ok.kind hk hc Z fin Y) hd
theorem au {i j pos}:PE X (.Constant (.int i) j pos) (tC (.int i)):=fun _ _ _ H _ I h=>wpAny_Constant_int {.int i,H,I.tok _,{_,rfl},h}
theorem nC {b j pos}:PE X (.Constant (.bool b) j pos) (tC (.bl b)):=fun _ _ _ H _ I h=>Constant_bool {.bl b,H,I,rfl,h}
theorem yw {j pos}:PE X (.Constant .none j pos) (tC .non):=fun _ _ _ H _ I h=>Ea {.non,H,I,rfl,h}
theorem cg {x j pos}:PE X (.Constant (.str x) j pos) (tC (.str x)):=fun _ _ _ H _ I h=>Calls.Constant_str {.str x,H,I.tok _,{_,rfl},h}
def Gl(X:Cx)(x:Str):Prop:=X.env.kindOf x=some .globalImplicit
theorem rY{E:af->ak->Prop}{pins:List (aa×Obj)}{s:ak}{σ:St}{H:Hp}{x:Str}{u:af}{pos:Pos}{Q:af->ak->Prop}(I:Inv X pins σ H s)(Z:Gl X x)(hm:X.mg x=some u)(h:Q u s)
  (hd:(x==("__debug__":Str))=false:=by decide):aW (aZ X.prog X.w) X.A (gf (.Name x pos) X.env) Q E s:=
 xl I.ok.kind Z (Calls.loadGlobal_global (by rw[I.ok.glob];exact I.mod.glob.keeps I.bk) hm h) hd
theorem rD{E:af->ak->Prop}{pins:List (aa×Obj)}{s:ak}{σ:St}{H:Hp}{x:Str}{u:af}{pos:Pos}{Q:af->ak->Prop}(I:Inv X pins σ H s)(Z:Gl X x)(hm:X.mg x=none)(hv:fg x=some u)(h:Q u s)
  (Y:x≠"__name__":=by decide) (hd:(x==("__debug__":Str))=false:=by decide):aW (aZ X.prog X.w) X.A (gf (.Name x pos) X.env) Q E s:=by
 obtain⟨W,h1,h2⟩:=I.mod.blt;exact xl I.ok.kind Z (Calls.loadGlobal_builtin (by rw[I.ok.glob];exact I.mod.glob.keeps I.bk) hm (by rw[I.ok.blt];exact h1.keeps I.bk) ((h2 x Y).trans hv) h) hd
theorem vj{x:Str}{v:V}{u:af}{pos:Pos}(Y:Gl X x)(hm:X.mg x=none)(hv:fg x=some u)(r:RelV v u)(Z:x≠"__name__":=by decide)(hd:(x==("__debug__":Str))=false:=by decide):PE X (.Name x pos) (tC v):=
 fun _ _ _ H _ I h=>rD I Y hm hv ⟨v,H,I,r,h⟩ Z hd
variable{a b:cS}{ta tb:TE}{pos:Pos}
def PC(X:Cx)(op:OJ)(a b:cS)(t:TE):Prop:=
 ∀(pins:List (aa×Obj)) (s:ak) (σ:St) (H:Hp) (Q:VK),Inv X pins σ H s->t σ H Q ->
  aW (aZ X.prog X.w) X.A (gf a X.env) (fun v Z=>aW (aZ X.prog X.w) X.A (gf b X.env) (fun u Y=>aW (aZ X.prog X.w) X.A (cN op v u) (EP X pins σ Q) X.xe Y) X.xe Z) X.xe s
theorem Fn(b:cS){op:OJ}(h:op≠.In)(h2:op≠.NotIn):jM op b=false:=by
 have e1:(op==CmpOp.In)=false:=by cases op<;>first|rfl|exact absurd rfl h
 have Z:(op==CmpOp.NotIn)=false:=by cases op<;>first|rfl|exact absurd rfl h2
 cases b<;>simp[jM,e1,Z]
def tIsN(ta:TE):TE:=fun σ H Q=>ta σ H fun x H1=>Q (.bl (decide (x=.non))) H1
def tNotN(ta:TE):TE:=fun σ H Q=>ta σ H fun x H1=>Q (.bl (!decide (x=.non))) H1
theorem RelV.none_iff{x:V}{v:af}(r:RelV x v):(v==Value.none)=decide (x=.non):=by
 cases x with
 |non=>cases r;rfl
 |bl _=>cases r;rfl
 |int _=>obtain⟨t,rfl⟩:=r;rfl
 |str _=>obtain⟨t,rfl⟩:=r;rfl
 |byt _=>obtain⟨t,rfl⟩:=r;rfl
 |flt _=>obtain⟨t,rfl⟩:=r;rfl
 |ref _=>cases r;rfl
 |ty _=>cases r;rfl
theorem Fo {j pos'} (ha:PE X a ta):PC X .Is a (.Constant .none j pos') (tIsN ta):=by
 intro pins s σ H Q I h;refine thn (ha pins s σ H _ I h) fun v W ⟨x,H1,Y,r1,Z⟩=>?_;exact Ea (is_none_gen {.bl _,H1,Y,by rw[r1.none_iff];rfl,Z})
theorem yy {j pos'} (ha:PE X a ta):PC X .IsNot a (.Constant .none j pos') (tNotN ta):=by
 intro pins s σ H Q I h;refine thn (ha pins s σ H _ I h) fun v W ⟨x,H1,Y,r1,Z⟩=>?_;exact Ea (isnot_none_gen {.bl _,H1,Y,by rw[r1.none_iff];rfl,Z})
inductive BlI(x:V)(H:Hp)(Q:Bool->Hp->Prop):Prop where
 |mk(c:Bool)(h:x=.bl c)(q:Q c H):BlI x H Q
def tB(t:TE):TT:=fun σ H Q=>t σ H fun x H1=>BlI x H1 Q
theorem pX{op:OJ}{t:TE}(h:PC X op a b t)(h1:jM op b=false:=by first|exact Fn _ (by decide) (by decide)|rfl):PT X (.Compare a [op] [b] pos) (tB t):=by
 intro pins s σ H Q I hw;refine IS (thn (h pins s σ H _ I hw) fun v V h1=>thn h1 fun u s2 h2=>thn h2 fun c W ⟨x,H1,Y,r1,Z⟩=>?_) h1;obtain⟨d,rfl,q⟩:=Z
 cases r1;exact i5 ⟨H1,Y,q⟩
theorem tL{e:cS}{t:TE}(h:PE X e t)(W:∀Z,Fl e X.env Z=(do let v <- Z;xm e.pos;rE [v] (truthy v)):=by intro _;rfl):PT X e (tB t):=by
 intro pins s σ H Q I hw;refine isTrue_plain (thn (h pins s σ H _ I hw) fun v U ⟨x,H1,Y,r1,V⟩=>?_) (W _);obtain⟨d,rfl,q⟩:=V
 cases r1;exact i5 ⟨H1,Y,q⟩
variable{tA tB':TT}{rest:List cS}
def tAnd(t u:TT):TT:=fun σ H Q=>t σ H fun c H1=>if c=true then u σ H1 Q else Q false H1
def tOr(t u:TT):TT:=fun σ H Q=>t σ H fun c H1=>if c=true then Q true H1 else u σ H1 Q
def tNot(t:TT):TT:=fun σ H Q=>t σ H fun c H1=>Q (!c) H1
theorem mw(ha:PT X a tA):PW X (.BoolOp .And [a] pos) tA:=by
 intro Y pins s σ H Q I h;refine isTrue_and (thn (ha pins s σ H Q I h) fun c Z e=>?_)
 cases c with
 |true=>exact isTrue_and_nil e
 |false=>exact e
theorem A4(ha:PT X a tA):PW X (.BoolOp .Or [a] pos) tA:=by
 intro Y pins s σ H Q I h;refine isTrue_or (thn (ha pins s σ H Q I h) fun c Z e=>?_)
 cases c with
 |false=>exact isTrue_or_nil e
 |true=>exact e
theorem oE(ha:PT X a tA)(hb:PW X (.BoolOp .And (b::rest) pos) tB'):PW X (.BoolOp .And (a::b::rest) pos) (tAnd tA tB'):=by
 intro W pins s σ H Q I h;refine isTrue_and (thn (ha pins s σ H _ I h) fun c V ⟨H1,Y,Z⟩=>?_)
 cases c with
 |true=>exact hb W pins V σ H1 Q Y Z
 |false=>exact⟨H1,Y,Z⟩
theorem Fp(ha:PT X a tA)(hb:PW X (.BoolOp .Or (b::rest) pos) tB'):PW X (.BoolOp .Or (a::b::rest) pos) (tOr tA tB'):=by
 intro W pins s σ H Q I h;refine isTrue_or (thn (ha pins s σ H _ I h) fun c V ⟨H1,Y,Z⟩=>?_)
 cases c with
 |true=>exact⟨H1,Y,Z⟩
 |false=>exact hb W pins V σ H1 Q Y Z
theorem A5(ha:PT X a tA):PT X (.UnaryOp .Not a pos) (tNot tA):=by
 intro pins s σ H Q I h;exact isTrue_not (ha pins s σ H (fun c H1=>Q (!c) H1) I h)
def K3(ta tb:TE):TE:=fun σ H Q=>ta σ H fun x H1=>∃c,x=.bl c/\if c=true then tb σ H1 Q else Q (.bl false) H1
theorem Mw {op} {t:TE} (h:PE X a t):PE X (.BoolOp op [a] pos) t:=fun pins s σ H Q I hw=>BoolOp_one (h pins s σ H Q I hw)
theorem Mx(ha:PE X a ta)(hb:PE X (.BoolOp .And (b::rest) pos) tb):PE X (.BoolOp .And (a::b::rest) pos) (K3 ta tb):=by
 intro pins s σ H Q I h;refine BoolOp_and (thn (ha pins s σ H _ I h) fun v W ⟨x,H1,Y,r1,Z⟩=>?_);obtain⟨c,rfl,Z⟩:=Z
 cases r1;refine i5 ?_
 cases c with
 |true=>exact hb pins W σ H1 Q Y Z
 |false=>exact{.bl false,H1,Y,rfl,Z}
def tIf(t:TT)(ta tb:TE):TE:=fun σ H Q=>t σ H fun c H1=>if c=true then ta σ H1 Q else tb σ H1 Q
theorem rZ{c:cS}(hc:PT X c tA)(ha:PE X a ta)(hb:PE X b tb):PE X (.IfExp c a b pos) (tIf tA ta tb):=by
 intro pins s σ H Q I h;refine wpAny_IfExp (thn (hc pins s σ H _ I h) fun d Y ⟨H1,W,Z⟩=>?_)
 cases d with
 |true=>exact ha pins Y σ H1 Q W Z
 |false=>exact hb pins Y σ H1 Q W Z
end
def SqL(K:ae)(H:Hp)(a:aa)(xs:List V):Prop:=
 Rd H a (.lst xs) \/
  ∃(o:Obj) (Z:Array af) (n:Nat),K.lookup a=some o/\o.cls=.type "list"/\o.dict=none/\o.data=.seq Z n/\Z.size<=aB/\c5 xs Z.toList
def SqT(K:ae)(H:Hp)(a:aa)(xs:List V):Prop:=
 Rd H a (.tup xs) \/
  ∃(o:Obj) (Z:Array af) (n:Nat),K.lookup a=some o/\o.cls=.type "tuple"/\o.data=.seq Z n/\Z.size<=aB/\c5 xs Z.toList
def absV:af->Option V
 |.none=>some .non
 |.bool b=>some (.bl b)
 |.int i _=>some (.int i)
 |.str x _=>some (.str x)
 |.bytes b _=>some (.byt b)
 |.float b _=>some (.flt b)
 |.ref a=>some (.ref a)
 |.type n=>some (.ty n)
 |_=>none
theorem RelV.abs{x:V}{u:af}(r:RelV x u):absV u=some x:=by
 cases x with
 |non=>cases r;rfl
 |bl _=>cases r;rfl
 |int _=>obtain⟨t,rfl⟩:=r;rfl
 |str _=>obtain⟨t,rfl⟩:=r;rfl
 |byt _=>obtain⟨t,rfl⟩:=r;rfl
 |flt _=>obtain⟨t,rfl⟩:=r;rfl
 |ref _=>cases r;rfl
 |ty _=>cases r;rfl
theorem RelV.inj{x y:V}{u:af}(r:RelV x u)(q:RelV y u):x=y:=cQ (r.abs.symm.trans q.abs)
theorem c5.inj:∀{xs ys:List V} {us:List af},c5 xs us->c5 ys us->xs=ys
 |_,_,_,.nil,.nil=>rfl
 |_,_,_,.cons r t,.cons Z t'=>by rw[r.inj Z,c5.inj t t']
section
variable{X:Cx}{pins:List (aa×Obj)}{σ:St}{H:Hp}{s:ak}{a:aa}{xs ys:List V}
theorem SqL.of{K:ae}(h:H a=some (.lst xs)):SqL K H a xs:=.inl (.inl h)
theorem SqT.of{K:ae}(h:H a=some (.tup xs)):SqT K H a xs:=.inl (.inl h)
theorem Inv.list(I:Inv X pins σ H s)(h:SqL X.K H a xs):∃Z:List af,c5 xs Z/\PlainL s.heap a Z.toArray/\xs.length<=aB:=by
 rcases h with h|⟨o,Z,n,hk,hc,hd,hs,Y,r⟩
 ·obtain⟨z,Z,n,r,e⟩:=h.ok I.hok;exact{Z,r,{_,n,e,rfl,rfl,rfl},z}
 ·refine{Z.toList,r,{o,n,I.kIn a o hk,hc,hd,by simpa using hs},?_};have e:=r.length;simp only[gB]at e;omega
theorem Inv.tuple(I:Inv X pins σ H s)(h:SqT X.K H a xs):∃Z:List af,c5 xs Z/\qX s.heap a Z.toArray/\xs.length<=aB:=by
 rcases h with h|⟨o,Z,n,hk,hc,hs,Y,r⟩
 ·obtain⟨z,Z,r,p⟩:=h.ok I.hok;exact⟨Z,r,p,z⟩
 ·refine{Z.toList,r,{o,I.kIn a o hk,hc,n,by simpa using hs},?_};have e:=r.length;simp only[gB]at e;omega
theorem Inv.list_inj(I:Inv X pins σ H s)(h:SqL X.K H a xs)(h':SqL X.K H a ys):xs=ys:=by
 obtain⟨Z,r,⟨o,n,e,_,_,d⟩,_⟩:=I.list h;obtain⟨its',Y,⟨o',W,e',_,_,d'⟩,_⟩:=I.list h';rw[e]at e';cases e';rw[d]at d';injection d' with d1 _;have:Z=its':=by simpa using congrArg Mz d1
 subst this;exact r.inj Y
theorem Inv.tuple_inj(I:Inv X pins σ H s)(h:SqT X.K H a xs)(h':SqT X.K H a ys):xs=ys:=by
 obtain⟨Z,r,⟨o,e,_,n,d⟩,_⟩:=I.tuple h;obtain⟨its',Y,⟨o',e',_,W,d'⟩,_⟩:=I.tuple h';rw[e]at e';cases e';rw[d]at d';injection d' with d1 _;have:Z=its':=by simpa using congrArg Mz d1
 subst this;exact r.inj Y
end
abbrev Cx.wish(X:Cx)(E:af->ak->Prop):Cx:={X with xe:=E}
abbrev Cx.nox(X:Cx):Cx:=X.wish fun _ _=>False
theorem Cx.Ok.wish{X:Cx}(ok:X.Ok)(E:af->ak->Prop):(X.wish E).Ok:=
 ⟨ok.mod,ok.kind,ok.glob,ok.blt,ok.above,ok.inj,ok.has,ok.cab,ok.hd,ok.frames,ok.stk,ok.exf,ok.bs,ok.bsz,ok.noex,ok.exfs,ok.funs,ok.frf⟩
theorem Cx.Ok.unwish{X:Cx}{E:af->ak->Prop}(ok:(X.wish E).Ok):X.Ok:=
 ⟨ok.mod,ok.kind,ok.glob,ok.blt,ok.above,ok.inj,ok.has,ok.cab,ok.hd,ok.frames,ok.stk,ok.exf,ok.bs,ok.bsz,ok.noex,ok.exfs,ok.funs,ok.frf⟩
section
variable{X:Cx}{pins:List (aa×Obj)}{σ:St}{H:Hp}{s:ak}{E:af->ak->Prop}
theorem Inv.wish(I:Inv X pins σ H s)(E:af->ak->Prop):Inv (X.wish E) pins σ H s:={I.ok.wish E,I.os,I.bare,I.base,I.loc,I.cell,I.free,I.freeC,I.pin,I.hok,I.len}
theorem Inv.unwish(I:Inv (X.wish E) pins σ H s):Inv X pins σ H s:=⟨I.ok.unwish,I.os,I.bare,I.base,I.loc,I.cell,I.free,I.freeC,I.pin,I.hok,I.len⟩
theorem SP.unwish{D:mY}{f:Flow}{s':ak}(h:SP (X.wish E) pins D f s'):SP X pins D f s':=by
 cases f with
 |next=>obtain⟨Z,H',I,q⟩:=h;exact⟨Z,H',I.unwish,q⟩
 |brk=>obtain⟨Z,H',I,q⟩:=h;exact⟨Z,H',I.unwish,q⟩
 |cont=>obtain⟨Z,H',I,q⟩:=h;exact⟨Z,H',I.unwish,q⟩
 |ret u=>obtain⟨v,Z,H',I,r,q⟩:=h;exact⟨v,Z,H',I.unwish,r,q⟩
theorem PSs.nox{st:List c9}{t:TS}(h:PSs X.nox st t):PSs X st t:=fun pins s σ H D I hw=>
 eV (h pins s σ H D (I.wish _) hw) (fun _ _ q=>q.unwish) fun _ _ z=>cV z
end
section
variable{X:Cx}{st:c9}{rest:List c9}{t u:TS}{e:cS}{te:TE}{pos:Pos}
def o8:TS:=fun D σ H=>D.nx σ H
def Jc(t u:TS):TS:=fun D σ H=>t {D with nx:=u D} σ H
theorem cj:PSs X [] o8:=fun _ _ σ H _ I h=>rS ⟨σ,H,I,h⟩
theorem aj(h1:PS X st t)(h2:PSs X rest u):PSs X (st::rest) (Jc t u):=by
 intro pins s σ H D I h;refine wpAny_execs_cons (thn (h1 pins s σ H {D with nx:=u D} I h) fun f Y q=>?_)
 cases f with
 |next=>
  obtain⟨Z,H',W,q⟩:=q;exact h2 pins Y Z H' D W q
 |ret v=>exact q
 |brk=>exact q
 |cont=>exact q
theorem aD(h1:PS X st t):PSs X [st] t:=by
 intro pins s σ H D I h;refine wpAny_execs_cons (thn (h1 pins s σ H D I h) fun f Z q=>?_)
 cases f with
 |next=>exact rS q
 |ret v=>exact q
 |brk=>exact q
 |cont=>exact q
theorem Inv.quiet{pins:List (aa×Obj)}{σ:St}{H:Hp}{s:ak}(I:Inv X pins σ H s):interactive X.env=false:=by simp[interactive,I.ok.kind]
def tDrop(te:TE):TS:=fun D σ H=>te σ H fun _ H1=>D.nx σ H1
theorem eR(Z:PE X e te)(hs:uw e none pos.line X.env=pure false:=by rfl):PS X (.Expr e pos) (tDrop te):=by
 intro pins s σ H D I h;exact wpAny_Expr_any (thn (Z pins s σ H _ I h) fun v V ⟨x,H1,W,r1,Y⟩=>⟨σ,H1,W,Y⟩) I.quiet hs
def MA(te:TE):TS:=fun D σ H=>te σ H D.rt
theorem bQ(Z:PE X e te):PS X (.Return (some e) pos) (MA te):=by
 intro pins s σ H D I h;exact wpAny_Return_some (thn (Z pins s σ H _ I h) fun v V ⟨x,H1,W,r1,Y⟩=>⟨x,σ,H1,W,r1,Y⟩)
def tIfS(c:TT)(t u:TS):TS:=fun D σ H=>c σ H fun b H1=>if b=true then t D σ H1 else u D σ H1
theorem cW{c:cS}{a b:List c9}{tc:TT}(hc:PT X c tc)(ha:PSs X a t)(hb:PSs X b u):PS X (.If c a b pos) (tIfS tc t u):=by
 intro pins s σ H D I h;refine wpAny_If (thn (hc pins s σ H _ I h) fun d Z ⟨H1,W,Y⟩=>?_)
 cases d with
 |true=>exact ha pins Z σ H1 D W Y
 |false=>exact hb pins Z σ H1 D W Y
def MH:TS:=fun _ _ _=>False
theorem xK{sts:List c9}:PSs X sts MH:=fun _ _ _ _ _ _ h=>h.elim
end
abbrev TG:=V->St->Hp->(St->Hp->Prop)->Prop
abbrev TGs:=List V->St->Hp->(St->Hp->Prop)->Prop
def PG(X:Cx)(Z:cS)(t:TG):Prop:=
 ∀(pins:List (aa×Obj)) (s:ak) (σ:St) (H:Hp) (v:V) (u:af) (Q:St->Hp->Prop),Inv X pins σ H s->RelV v u->t v σ H Q ->
  aW (aZ X.prog X.w) X.A (yz Z X.env u) (fun _ s'=>∃Y H',Inv X pins Y H' s'/\Q Y H') X.xe s
def PGs(X:Cx)(Y:List cS)(t:TGs):Prop:=
 ∀(pins:List (aa×Obj)) (s:ak) (σ:St) (H:Hp) (vs:List V) (us:List af) (Q:St->Hp->Prop),Inv X pins σ H s->c5 vs us->t vs σ H Q ->
  aW (aZ X.prog X.w) X.A (assignInOrder ((lu Y X.env).map (·.2)) us) (fun _ s'=>∃Z H',Inv X pins Z H' s'/\Q Z H') X.xe s
abbrev MI:=V->V->V->Hp->(Hp->Prop)->Prop
def PSet(X:Cx)(t:MI):Prop:=
 ∀(pins:List (aa×Obj)) (s:ak) (σ:St) (H:Hp) (o i v:V) (Z Y u:af) (Q:Hp->Prop),Inv X pins σ H s->RelV o Z->RelV i Y->RelV v u->t o i v H Q ->
  aW (aZ X.prog X.w) X.A (setItem Z Y u) (fun _ s'=>∃H',Inv X pins σ H' s'/\Q H') X.xe s
section
variable{X:Cx}{pos:Pos}
def zW(i:Nat):TG:=fun v σ H Q=>Q (σ.set i (some v)) H
theorem dS{i:Nat}{x:Str}(W:X.N.Nodup)(hi:X.N[i]?=some x)(hx:Loc X.env.scope x)(Z:X.fn x=true\/X.env.scope.names.lookup x=some .local:=by first|exact .inl rfl|exact .inr rfl|assumption):PG X (.Name x pos) (zW i):=by
 intro pins s σ H v u Q I r h;exact OK (rX I W hi hx r (fun s' Y=>{_,H,Y,h}) Z)
def gNil:TGs:=fun vs σ H Q=>vs=[]/\Q σ H
inductive K4(t:TG)(u:TGs)(vs:List V)(σ:St)(H:Hp)(Q:St->Hp->Prop):Prop where
 |mk(v:V)(r:List V)(h:vs=v::r)(q:t v σ H fun σ' H'=>u r σ' H' Q):K4 t u vs σ H Q
def gCons(t:TG)(u:TGs):TGs:=fun vs σ H Q=>K4 t u vs σ H Q
theorem sh:PGs X [] gNil:=by
 intro pins s σ H vs us Q I r h;obtain⟨e,h⟩:=h;subst e
 cases r;exact assignInOrder_nil ⟨σ,H,I,h⟩
theorem je{e:cS}{es:List cS}{t:TG}{u:TGs}(h1:PG X e t)(h2:PGs X es u)
  (hs:(lu (e::es) X.env).map (·.2)=yz e X.env::(lu es X.env).map (·.2):=by rfl):PGs X (e::es) (gCons t u):=by
 intro pins s σ H vs us Q I r h;obtain⟨v,O,e1,h⟩:=h;subst e1
 cases r with
 |cons r V=>
  rw[hs];refine assignInOrder_cons (thn (h1 pins s σ H _ _ _ I r h) fun _ Y ⟨Z,H1,W,U⟩=>?_);exact h2 pins Y Z H1 _ _ Q W V U
inductive GTup(K:ae)(n:Nat)(t:TGs)(v:V)(σ:St)(H:Hp)(Q:St->Hp->Prop):Prop where
 |mk(a:aa)(xs:List V)(h:v=.ref a)(s:SqT K H a xs)(l:xs.length=n)(q:t xs σ H Q):GTup K n t v σ H Q
def gTup(K:ae)(n:Nat)(t:TGs):TG:=fun v σ H Q=>GTup K n t v σ H Q
theorem vQ{es:List cS}{k:Nat}{t:TGs}{n:Nat}(hc:X.calm=true)(h:PGs X es t)
  (V:(lu es X.env).length=n:=by rfl) (hst:(lu es X.env).findIdx? (·.1)=none:=by rfl):PG X (.Tuple es k pos) (gTup X.K n t):=by
 intro pins s σ H v u Q I r hw;obtain⟨a,xs,e1,hq,hl,hw⟩:=hw;subst e1
 cases r;obtain⟨W,Z,ht,U⟩:=I.tuple hq;refine assign_Tuple_tuple (I.ok.hd hc) ht (by simp[V,<- hl,Z.length]) hst fun h' hx=>?_;have Y:Inv X pins σ H {s with heap:=h'}:=I.kept (t':=s.toks) fun b o e=>hx b o (aQ (aP e)) e;exact h pins _ σ H xs _ Q Y (by simpa using Z) hw
def gSub(to Y:TE)(t:MI):TG:=fun v σ H Q=>to σ H fun o H1=>Y σ H1 fun i H2=>t o i v H2 fun Z=>Q σ Z
theorem yA{o i:cS}{to W:TE}{t:MI}(ho:PE X o to)(hi:PE X i W)(hs:PSet X t)
  (ha:∀v,yz (.Subscript o i pos) X.env v=(do
   let Z <- rE [v] (gf o X.env)
   let Y <- rE [v,Z] (gf i X.env)
   xm pos
   rE [v,Z,Y] (setItem Z Y v)
   release [v,Z,Y] []):=by intro _;rfl):PG X (.Subscript o i pos) (gSub to W t):=by
 intro pins s σ H v u Q I r h;rw[ha];refine ao (e8 (thn (ho pins s σ H _ I h) fun Z U ⟨x,H1,O,r1,g⟩=>?_));refine ao (e8 (thn (hi pins U σ H1 _ O g) fun Y s2 ⟨y,H2,D,r2,J⟩=>?_));refine ao (Eb (ao (e8 (thn (hs pins s2 σ H2 x y v Z Y u _ D r1 r2 r J) fun _ s3 ⟨M,z,V⟩=>?_))));exact wpAny_release ⟨σ,M,z,V⟩
def Fq(te:TE)(g:TG):TS:=fun D σ H=>te σ H fun x H1=>g x σ H1 D.nx
theorem rF{tg e:cS}{te:TE}{g:TG}(V:PE X e te)(Y:PG X tg g)(hs:swapsWithSole [tg] e pos.line X.env=pure false:=by rfl)(hw:swappedStores [tg] e X.env=pure none:=by rfl)
  (h1:(lu [tg] X.env).map (·.2)=[yz tg X.env]:=by rfl):PS X (.Assign [tg] e pos) (Fq te g):=by
 intro pins s σ H D I h;refine wpAny_Assign_stores (thn (V pins s σ H _ I h) fun v Z ⟨x,H1,W,r1,U⟩=>?_) hs hw;rw[h1];exact thn (Y pins Z σ H1 x v _ W r1 U) fun _ s2 q=>q
theorem bE{i:Nat}{x:Str}{e:cS}{te:TE}{pos':Pos}(O:X.N.Nodup)(hi:X.N[i]?=some x)(hx:Loc X.env.scope x)(V:PE X e te)(hs:uw e (some (.Name x pos')) pos.line X.env=pure false:=by rfl)(W:X.fn x=true\/X.env.scope.names.lookup x=some .local:=by first|exact .inl rfl|exact .inr rfl|assumption) :
  PS X (.Assign [.Name x pos'] e pos) (Fq te (zW i)):=by
 intro pins s σ H D I h;refine wpAny_Assign_Name (thn (V pins s σ H _ I h) fun v M ⟨y,H1,Z,r1,U⟩=>?_) hs;exact rX Z O hi hx r1 (fun s2 Y=>{_,H1,Y,U}) W
end
section
variable{X:Cx}{pos:Pos}
def Fs(c:TT)(tb:TS):TS:=fun D σ H=>∃W:Nat->St->Hp->Prop,(∃m,W m σ H)/\∀m σ H,W m σ H ->
 c σ H fun b H1=>if b=true then ∃N:St->Hp->Prop,(∀Z H',N Z H'->∃Y,Y<m/\W Y Z H')/\tb {D with nx:=N,ct:=N,bk:=D.nx} σ H1 else D.nx σ H1
theorem vR{c:cS}{V:List c9}{tc:TT}{tb:TS}(hp:PassesOwn (aZ X.prog X.w) X.A X.env X.xe)(hc:PT X c tc)(hb:PSs X V tb):PS X (.While c V [] pos) (Fs tc tb):=by
 intro pins s σ H D I h;obtain⟨W,⟨m0,w0⟩,turn⟩:=h;refine wpAny_While (codeAny_whileLoop (fun n s'=>∃U H',Inv X pins U H' s'/\W n U H') ?_ m0 ⟨σ,H,I,w0⟩);rintro n s1 ⟨Y,H1,I1,w1⟩;refine iL hp (thn (hc pins s1 Y H1 _ I1 (turn n Y H1 w1)) fun b s2 ⟨H2,I2,J⟩=>?_)
 cases b with
 |true=>
  obtain⟨N,hN,J⟩:=J;rw[if_pos rfl];refine iL hp (thn (hb pins s2 Y H2 _ I2 J) fun f s3 M=>?_)
  cases f with
  |next=>
   obtain⟨Z,O,g,n3⟩:=M;obtain⟨z,hm,w3⟩:=hN Z O n3;exact⟨z,hm,Z,O,g,w3⟩
  |cont=>
   obtain⟨Z,O,g,n3⟩:=M;obtain⟨z,hm,w3⟩:=hN Z O n3;exact⟨z,hm,Z,O,g,w3⟩
  |brk=>exact M
  |ret v=>exact M
 |false=>
  rw[if_neg bL];exact rS ⟨Y,H2,I2,J⟩
end
structure It where
 go:Nat->Hp->Prop
 yld:Nat->Hp->V->Hp->Prop
 stop:Nat->Hp->Prop
def yB(X:Cx)(pins:List (aa×Obj))(H:Hp)(b:aa):Prop:=
 H b=none/\b≠X.env.locals/\b∉X.fs/\(b∈X.ex\/X.s₀.heap.objs.size<=b)/\(∀x c,X.env.cells.lookup x=some c->c≠b)/\∀p∈X.pn++pins,p.1≠b
theorem Inv.fpOk{X:Cx}{pins:List (aa×Obj)}{σ:St}{H H':Hp}{s:ak}{b:aa}(I:Inv X pins σ H s)(hb:s.heap.objs.size<=b)(Z:H' b=none):yB X pins H' b:=by
 refine{Z,pY (bj I.lt hb),I.nofs hb,.inr (dA I.sz hb),fun x c e z=>?_,fun p hp z=>?_}
 ·obtain⟨v,q⟩:=I.cell x c e;exact absurd (bj q.lt (by rw[z];exact hb)) (hU _)
 ·exact absurd (bj (aP (I.pin p hp).1) (by rw[z];exact hb)) (hU _)
structure A6(P:aK)(w:bD)(K:ae)(tg:cS)(J:It)(fp:List aa)(it:aa)(tn:Nat->cB->Prop):Prop where
 mem:it∈fp
 obj:∀i h,tn i h->∀b∈fp,∃o,h.get? b=some o/\∀v,o.data≠.cell v
 keep:∀i h h',tn i h->(∀b∈fp,∀o,h.get? b=some o->h'.get? b=some o)->tn i h'
 item:∀(X:Cx),X.prog=P->X.w=w->X.K=K->X.calm=true->∀(i:Nat) (pins:List (aa×Obj)) (s:ak) (σ:St) (H:Hp) (E:af->ak->Prop),Inv X pins σ H s->(∀b∈fp,yB X pins H b)->tn i s.heap->J.go i H ->
  aW (aZ P w) X.A (pyNext (.ref it)) (fun r s1=>∃u,r=some u /\
   aW (aZ P w) X.A (rT tg (.ref it) u) (fun _ s2=>∃x H',Inv X pins σ H' s2/\RelV x u/\J.yld i H x H'/\tn (i+1) s2.heap/\∀b∈fp,H' b=none) E s1) E s
 done:∀(X:Cx),X.prog=P->X.w=w->X.K=K->X.calm=true->∀(i:Nat) (pins:List (aa×Obj)) (s:ak) (σ:St) (H:Hp) (E:af->ak->Prop),Inv X pins σ H s->(∀b∈fp,yB X pins H b)->tn i s.heap->J.stop i H ->
  aW (aZ P w) X.A (pyNext (.ref it)) (fun r s1=>r=none/\Inv X pins σ H s1) E s
 self:∀(A:bX) (i:Nat) (s:ak) (Q:af->ak->Prop) (E:af->ak->Prop),tn i s.heap->Q (.ref it) s->aW (aZ P w) A (pyIter (.ref it)) Q E s
abbrev TI:=St->Hp->(It->Hp->Prop)->Prop
def PIE(X:Cx)(pins:List (aa×Obj))(σ:St)(tg:cS)(R:It->Hp->Prop)(Z:af)(s2:ak):Prop:=
 ∃(it:aa) (fp:List aa) (Y:Nat->cB->Prop) (J:It) (H':Hp),Z=.ref it/\Inv X pins σ H' s2/\A6 X.prog X.w X.K tg J fp it Y/\Y 0 s2.heap/\(∀b∈fp,yB X pins H' b)/\R J H'
def PI(X:Cx)(tg Z:cS)(Y:TI):Prop:=
 ∀(pins:List (aa×Obj)) (s:ak) (σ:St) (H:Hp) (R:It->Hp->Prop),Inv X pins σ H s->Y σ H R ->
  aW (aZ X.prog X.w) X.A (gf Z X.env) (fun v W=>aW (aZ X.prog X.w) X.A (pyIter v) (PIE X pins σ tg R) X.xe W) X.xe s
theorem B8{M:Jb}{A:bX}{E:af->ak->Prop}{s:ak}{tg:cS}{it:aa}{u:af}{o:Obj}{n:String}{vs:Array af}{Q:Unit->ak->Prop}(ho:s.heap.get? it=some o)(hc:o.cls=.type n)(hd:o.data=.fields vs)
  (Y:["enumerate","zip","dict_itemiterator","dict_reverseitemiterator","odict_iterator","itertools.zip_longest","itertools.pairwise"].contains n=false) (Z:Q () s):aW M A (rT tg (.ref it) u) Q E s:=by
 unfold rT
 cases tg<;>first
  |exact aU Z
  |(cases u<;>first
    |exact aU Z
    |(refine ao (wpAny_load ho ?_)
      rw[hc,hd];show aW M A (if (["enumerate","zip","dict_itemiterator","dict_reverseitemiterator","odict_iterator","itertools.zip_longest","itertools.pairwise"].contains n&&vs[0]?==some (tM _))=true then _ else _) Q E s;rw[if_neg (by intro h;rw[Y,Bool.false_and]at h;cases h)];exact aU Z))
def Itl(K:ae)(a:aa):It:=
 ⟨fun i H=>∃xs x,SqL K H a xs/\xs[i]?=some x,fun i H x H'=>H'=H/\∀xs,SqL K H a xs->xs[i]?=some x,fun i H=>∃xs,SqL K H a xs/\xs.length<=i⟩
def Itt(K:ae)(a:aa):It:=
 ⟨fun i H=>∃xs x,SqT K H a xs/\xs[i]?=some x,fun i H x H'=>H'=H/\∀xs,SqT K H a xs->xs[i]?=some x,fun i H=>∃xs,SqT K H a xs/\xs.length<=i⟩
def Itr(lo:Int)(n:Nat):It:=⟨fun i _=>i<n,fun i H x H'=>H'=H/\x=.int (lo+i),fun i _=>n<=i⟩
theorem Ec{P:aK}{w:bD}{K:ae}{tg:cS}(a it:aa):A6 P w K tg (Itl K a) [it] it (fun i h=>h.IsListIter it a i) where
 mem:=by simp
 obj:=fun i h st b hb=>by
  have e:b=it:=by simpa using hb
  subst e;obtain⟨o,e,c,d⟩:=st;exact{o,e,fun v z=>by rw[d]at z;cases z}
 keep:=fun i h h' st k=>st.at fun o e=>k it (by simp) o e
 item:=by
  intro X hP hw g hc i pins s σ H E I Y st V;subst hP hw g;obtain⟨xs,x,hq,hx⟩:=V;obtain⟨J,O,p,hz⟩:=I.list hq;obtain⟨u,hu,ru⟩:=O.get hx;obtain⟨U,f1,f2,W,M,D⟩:=Y it (by simp);refine Ft st p.isList (x:=u) (by simpa using hu) fun h' Z sb=>?_;have I1:Inv X pins σ H {s with heap:=h'}:=I.turned (t':=s.toks) (fun b o hb e=>(sb.2 b hb).trans e) U f1 W M D;obtain⟨o,e,c,d⟩:=id Z;exact{u,rfl,B8 (s:={s with heap:=h'}) e c d (by decide) {x,H,I1,ru,{rfl,fun ys hy=>by rw[I.list_inj hy hq];exact hx},Z,fun b hb=>(Y b hb).1}}
 done:=by
  intro X hP hw g hc i pins s σ H E I Y st V;subst hP hw g;obtain⟨xs,hq,hx⟩:=V;obtain⟨J,O,p,hz⟩:=I.list hq;obtain⟨U,f1,f2,W,M,D⟩:=Y it (by simp);have hl:=O.length;exact IT (I.ok.hd hc) st p.isList (by simp;omega) fun h' eb=>{rfl,I.turned (t':=s.toks) (fun b o hb e=>eb b o hb e) U f1 W M D}
 self:=fun _ _ _ _ _ st h=>wpAny_pyIter_listiter st h
theorem A7{P:aK}{w:bD}{K:ae}{tg:cS}(a it:aa):A6 P w K tg (Itt K a) [it] it (fun i h=>h.IsTupleIter it a i) where
 mem:=by simp
 obj:=fun i h st b hb=>by
  have e:b=it:=by simpa using hb
  subst e;obtain⟨o,e,c,d⟩:=st;exact{o,e,fun v z=>by rw[d]at z;cases z}
 keep:=fun i h h' st k=>st.at fun o e=>k it (by simp) o e
 item:=by
  intro X hP hw g hc i pins s σ H E I W st U;subst hP hw g;obtain⟨xs,x,hq,hx⟩:=U;obtain⟨Z,M,p,hz⟩:=I.tuple hq;obtain⟨u,hu,ru⟩:=M.get hx;obtain⟨O,f1,f2,V,J,D⟩:=W it (by simp);refine wpAny_pyNext_tuple_item st (show s.heap.IsTuple a Z.toArray from p) (x:=u) (by simpa using hu) fun h' Y sb=>?_;have I1:Inv X pins σ H {s with heap:=h'}:=I.turned (t':=s.toks) (fun b o hb e=>(sb.2 b hb).trans e) O f1 V J D;obtain⟨o,e,c,d⟩:=id Y;exact{u,rfl,B8 (s:={s with heap:=h'}) e c d (by decide) {x,H,I1,ru,{rfl,fun ys hy=>by rw[I.tuple_inj hy hq];exact hx},Y,fun b hb=>(W b hb).1}}
 done:=by
  intro X hP hw g hc i pins s σ H E I W st U;subst hP hw g;obtain⟨xs,hq,hx⟩:=U;obtain⟨Z,M,p,hz⟩:=I.tuple hq;obtain⟨O,f1,f2,V,J,D⟩:=W it (by simp);have hl:=M.length;exact wpAny_pyNext_tuple_end (I.ok.hd hc) st (show s.heap.IsTuple a Z.toArray from p) (by simp;omega) fun h' eb=>{rfl,I.turned (t':=s.toks) (fun b o hb e=>eb b o hb e) O f1 V J D}
 self:=fun _ _ _ _ _ st h=>wpAny_pyIter_tupleiter st h
theorem A8{P:aK}{w:bD}{K:ae}{tg:cS}(it:aa)(lo:Int)(n:Nat):A6 P w K tg (Itr lo n) [it] it (fun i h=>zJ h it (lo+(i:Nat)*1) ((n:Int)-(i:Nat)) 1) where
 mem:=by simp
 obj:=fun i h st b hb=>by
  have e:b=it:=by simpa using hb
  subst e;exact{_,st,fun v z=>by
   have z':Data.fields _=Data.cell v:=z
   cases z'}
 keep:=fun i h h' st k=>k it (by simp) _ st
 item:=by
  intro X g hw J hc i pins s σ H E I Y st U;subst g hw J;obtain⟨O,f1,f2,V,M,D⟩:=Y it (by simp);have W:=OL (prog:=X.prog) (w:=X.w) (I.ok.hd hc) it lo 1 n;refine W.item i s _ _ U st fun v h' tk hv Z kk=>?_;obtain⟨t,rfl⟩:=hv;have I1:Inv X pins σ H {s with heap:=h',toks:=tk}:=I.turned (fun b o hb e=>kk b o (by simpa using hb) e) O f1 V M D;refine{_,rfl,B8 (s:={s with heap:=h',toks:=tk}) (n:="range_iterator") Z rfl rfl (by decide) {.int (lo+i),H,I1,{t,?_},⟨rfl,rfl⟩,Z,fun b hb=>(Y b hb).1}};rw[Int.mul_one]
 done:=by
  intro X g hw J hc i pins s σ H E I Y st U;subst g hw J;obtain⟨O,f1,f2,V,M,D⟩:=Y it (by simp);exact Fu (I.ok.hd hc) st (by have:n<=i:=U;omega) fun h' eb=>{rfl,I.turned (t':=s.toks) (fun b o hb e=>eb b o hb e) O f1 V M D}
 self:=fun _ _ _ _ _ st h=>Fv st h
section
variable{X:Cx}{tg:cS}
def Fw(K:ae)(tl:TE):TI:=fun σ H R=>tl σ H fun x H1=>∃a,x=.ref a/\(∃xs,SqL K H1 a xs)/\R (Itl K a) H1
def iTup(K:ae)(tl:TE):TI:=fun σ H R=>tl σ H fun x H1=>∃a,x=.ref a/\(∃xs,SqT K H1 a xs)/\R (Itt K a) H1
theorem iM{l:cS}{tl:TE}(hl:PE X l tl):PI X tg l (Fw X.K tl):=by
 intro pins s σ H R I h;refine thn (hl pins s σ H _ I h) fun v Z ⟨x,H1,Y,r1,V⟩=>?_;obtain⟨a,e,⟨xs,hq⟩,q⟩:=V;subst e
 cases r1;obtain⟨W,O,p,U⟩:=Y.list hq;refine OM p.isList ?_;refine{Z.heap.objs.size,[Z.heap.objs.size],_,_,H1,rfl,Y.kept (t':=Z.toks) fun b o e=>aI _ e,Ec a _,{_,cz _ rfl,rfl,rfl},fun b hb=>?_,q};have e:b=Z.heap.objs.size:=by simpa using hb
 subst e;exact Y.fpOk (ay _) (Y.hok.fresh (ay _))
theorem MJ{l:cS}{tl:TE}(hl:PE X l tl):PI X tg l (iTup X.K tl):=by
 intro pins s σ H R I h;refine thn (hl pins s σ H _ I h) fun v Z ⟨x,H1,Y,r1,V⟩=>?_;obtain⟨a,e,⟨xs,hq⟩,q⟩:=V;subst e
 cases r1;obtain⟨W,O,p,U⟩:=Y.tuple hq;refine wpAny_pyIter_tuple (show Z.heap.IsTuple a W.toArray from p) ?_;refine{Z.heap.objs.size,[Z.heap.objs.size],_,_,H1,rfl,Y.kept (t':=Z.toks) fun b o e=>aI _ e,A7 a _,{_,cz _ rfl,rfl,rfl},fun b hb=>?_,q};have e:b=Z.heap.objs.size:=by simpa using hb
 subst e;exact Y.fpOk (ay _) (Y.hok.fresh (ay _))
theorem Fx{pins:List (aa×Obj)}{σ:St}{H:Hp}{s:ak}{R:It->Hp->Prop}{E:af->ak->Prop}{lo hi:Int}{t u v:Tok}{tk:Nat}(I:Inv X pins σ H s)(h1:-(2^62)<=lo)(h2:lo<2^62)(V:-(2^62)<=hi)(Y:hi<2^62)
  (q:R (Itr lo (hi-lo).toNat) H):aW (aZ X.prog X.w) X.A (pyIter (.ref s.heap.objs.size)) (PIE X pins σ tg R) E {s with heap:=s.heap.push {cls:=.type "range",data:=.fields #[.int lo t,.int hi u,.int 1 v]},toks:=tk}:=by
 refine MK (K5 ..) (small_one h1 h2 V Y) ?_;have Z:Inv X pins σ H {s with heap:=s.heap.push {cls:=.type "range",data:=.fields #[.int lo t,.int hi u,.int 1 v]},toks:=tk}:=I.kept fun b o e=>aI _ e;refine{(s.heap.push {cls:=.type "range",data:=.fields #[.int lo t,.int hi u,.int 1 v]}).objs.size,[(s.heap.push {cls:=.type "range",data:=.fields #[.int lo t,.int hi u,.int 1 v]}).objs.size],_,_,H,rfl,
  Z.kept (t':=tk) fun b o e=>aI _ e,A8 _ lo (hi-lo).toNat,?_,fun b hb=>?_,q}
 ·have e1:lo+((0:Nat):Int)*1=lo:=by simp
  have W:(((hi-lo).toNat:Nat):Int)-((0:Nat):Int)=bJ lo hi 1:=by rw[rangeSize_one];split<;>omega
  show zJ _ _ (lo+((0:Nat):Int)*1) ((((hi-lo).toNat:Nat):Int)-((0:Nat):Int)) 1;rw[e1,W];exact cz _ rfl
 ·have e:b=(s.heap.push {cls:=.type "range",data:=.fields #[.int lo t,.int hi u,.int 1 v]}).objs.size:=by simpa using hb
  subst e;exact Z.fpOk (ay _) (Z.hok.fresh (ay _))
def Fy(ta:TA):TI:=fun σ H R=>ta σ H fun vs H1=>∃j:Int,vs=[.int j]/\-(2^62)<=j/\j<2^62/\R (Itr 0 j.toNat) H1
theorem jV{a:cS}{ta:TA}{p pos:Pos}(Y:Gl X "range")(hm:X.mg "range"=none)(ha:PA X [a] ta)(hs:cE [a] X.env=[(false,gf a X.env)]:=by rfl):PI X tg (.Call (.Name "range" p) [a] [] pos) (Fy ta):=by
 intro pins s σ H R I h;refine Call_ (rD I Y hm boot_range (ib (thn (ha pos pins s σ H _ I h) fun us O ⟨vs,H1,V,r1,Z⟩=>?_) hs rfl));obtain⟨j,e,Z,W,q⟩:=Z;subst e
 cases r1 with
 |cons r U=>
  cases U;obtain⟨t,rfl⟩:=r;exact call_range_1 (Fx V (by omega) (by omega) Z W (by simpa using q))
def tFor(U:TI)(g:TG)(tb:TS):TS:=fun D σ H=>U σ H fun J H1=>∃W:Nat->Nat->St->Hp->Prop,(∃m,W 0 m σ H1)/\∀i m σ H,W i m σ H ->
 (J.stop i H/\D.nx σ H)\/(J.go i H/\∃N:St->Hp->Prop,(∀Z H',N Z H'->∃V,V<m/\W (i+1) V Z H')/\∀x H',J.yld i H x H'->g x σ H' fun Y H2=>tb {D with nx:=N,ct:=N,bk:=D.nx} Y H2)
def tN(fp:List aa)(h:cB):List (aa×Obj):=fp.filterMap fun b=>(h.get? b).map fun o=>(b,o)
theorem oF{fp:List aa}{h:cB}{b:aa}{o:Obj}(hb:b∈fp)(e:h.get? b=some o):(b,o)∈tN fp h:=tF.mpr {b,hb,by rw[e];rfl}
theorem Ee{fp:List aa}{h:cB}{p:aa×Obj}(hp:p∈tN fp h):p.1∈fp/\h.get? p.1=some p.2:=by
 obtain⟨b,hb,e⟩:=tF.mp hp
 cases q:h.get? b with
 |none=>rw[q]at e;cases e
 |some o=>
  rw[q]at e;have e':(b,o)=p:=cQ e;subst e';exact⟨hb,q⟩
theorem Inv.pinned{pins:List (aa×Obj)}{σ:St}{H:Hp}{s:ak}{fp:List aa}(I:Inv X pins σ H s)(Y:∀b∈fp,yB X pins H b)(ho:∀b∈fp,∃o,s.heap.get? b=some o/\∀v,o.data≠.cell v):Inv X (pins++tN fp s.heap) σ H s:=
 I.pins_of fun p hp=>(bM.mp hp).elim (fun z=>I.pin p (aX _ z)) fun z=>by
  obtain⟨hb,e⟩:=Ee z;obtain⟨W,f1,Z,_⟩:=Y p.1 hb;obtain⟨o,e',d⟩:=ho p.1 hb;rw[e]at e';cases e';exact⟨e,W,f1,Z,d⟩
theorem Inv.unpinned{pins pl:List (aa×Obj)}{σ:St}{H:Hp}{s:ak}(I:Inv X (pins++pl) σ H s):Inv X pins σ H s:=I.pins_of fun p hp=>I.pin p (aX _ (gZ _ hp))
theorem jA{z:cS}{ec:List c9}{wi:TI}{g:TG}{tb:TS}{pos:Pos}(hp:PassesOwn (aZ X.prog X.w) X.A X.env X.xe)(hc:X.calm=true)(hi:PI X tg z wi)(hg:PG X tg g)(hb:PSs X ec tb)
  (hs:∀x,pQ z X.env x=pure x:=by intro _;rfl):PS X (.For tg z ec [] pos) (tFor wi g tb):=by
 intro pins s σ H D I h;refine wpAny_For (thn (hi pins s σ H _ I h) fun v s1 h1=>thn h1 fun dt s2 h2=>?_) hs;obtain⟨it,fp,tn,J,H2,e,I2,T,dz,f2,W,⟨m0,w0⟩,turn⟩:=h2;subst e
 -- what stays true of the iterator's objects through the loop
 have M:∀{H':Hp},(∀b∈fp,H' b=none)->∀b∈fp,yB X pins H' b:=fun hn b hb=>{hn b hb,(f2 b hb).2};refine codeAny_forLoop_any (fun n s'=>∃i O H',Inv X pins O H' s'/\tn i s'.heap/\(∀b∈fp,H' b=none)/\W i n O H') ?_ m0 {0,σ,H2,I2,dz,fun b hb=>(f2 b hb).1,w0};rintro n s3 ⟨i,V,H3,I3,ea,dV,w3⟩
 rcases turn i n V H3 w3 with⟨stop,qn⟩|⟨go,N,hN,step⟩
 ·refine iL hp (thn (T.done X rfl rfl rfl hc i pins s3 V H3 X.xe I3 (M dV) ea stop) fun r s4 ⟨hr,I4⟩=>?_);subst hr;exact rS ⟨V,H3,I4,qn⟩
 ·refine iL hp (thn (T.item X rfl rfl rfl hc i pins s3 V H3 X.xe I3 (M dV) ea go) fun r s4 ⟨u,hr,h4⟩=>?_);subst hr;refine iL hp (thn h4 fun _ s5 ⟨x,H5,I5,r5,y5,eb,dG⟩=>?_);have dL:=I5.pinned (M dG) (T.obj _ _ eb);refine iL hp (thn (hg _ s5 V H5 x u _ dL r5 (step x H5 y5)) fun _ s6 ⟨dv,H6,I6,q6⟩=>?_);refine iL hp (thn (hb _ s6 dv H6 _ I6 q6) fun f s7 q7=>?_);have again:∀{Z:St} {Y:Hp},Inv X (pins++tN fp s5.heap) Z Y s7->N Z Y->∃m,m<n/\∃i O H',Inv X pins O H' s7/\tn i s7.heap/\(∀b∈fp,H' b=none)/\W i m O H':=fun {Z Y} U n7=>by
   obtain⟨m',hm,w7⟩:=hN Z Y n7;refine{m',hm,i+1,Z,Y,U.unpinned,T.keep _ _ _ eb fun b hb o e=>(U.pin (b,o) (aX _ (aX _ (oF hb e)))).1,fun b hb=>?_,w7};obtain⟨o,e,d⟩:=T.obj _ _ eb b hb;exact (U.pin (b,o) (aX _ (aX _ (oF hb e)))).2.1
  cases f with
  |next=>obtain⟨Z,Y,U,n7⟩:=q7;exact again U n7
  |cont=>obtain⟨Z,Y,U,n7⟩:=q7;exact again U n7
  |brk=>obtain⟨Z,Y,U,q7⟩:=q7;exact⟨Z,Y,U.unpinned,q7⟩
  |ret v=>obtain⟨x7,Z,Y,U,r7,q7⟩:=q7;exact⟨x7,Z,Y,U.unpinned,r7,q7⟩
end
theorem jB{K:ae}{a:aa}{xs:List V}{g:TG}{tb:TS}{D:mY}{σ:St}{H:Hp}(Z:Nat->St->Hp->Prop)(h0:Z 0 σ H)(hl:∀i σ H,i<=xs.length->Z i σ H->SqL K H a xs)
  (hs:∀i x σ H,xs[i]?=some x->Z i σ H->g x σ H fun Y H2=>tb {D with nx:=Z (i+1),ct:=Z (i+1),bk:=D.nx} Y H2) (hd:∀σ H,Z xs.length σ H->D.nx σ H) :
  ∃W:Nat->Nat->St->Hp->Prop,(∃m,W 0 m σ H)/\∀i m σ H,W i m σ H ->
   ((Itl K a).stop i H/\D.nx σ H)\/((Itl K a).go i H/\∃N:St->Hp->Prop,(∀U H',N U H'->∃M,M<m/\W (i+1) M U H')/\∀x H',(Itl K a).yld i H x H'->g x σ H' fun Y H2=>tb {D with nx:=N,ct:=N,bk:=D.nx} Y H2):=by
 refine{fun i m σ H=>m=xs.length-i/\i<=xs.length/\Z i σ H,{xs.length,by simp,bV _,h0},?_};rintro i m σ H ⟨rfl,hi,p⟩;have q:=hl i σ H hi p
 by_cases O:i<xs.length
 ·refine .inr {{xs,xs[i],q,by simp[O]},Z (i+1),fun U H' J=>{xs.length-(i+1),by omega,rfl,O,J},fun x H' y=>?_};obtain⟨e,y⟩:=y;subst e;exact hs i x σ _ (y xs q) p
 ·have e:i=xs.length:=by omega
  subst e;exact .inl {{xs,q,ay _},hd σ H p}
theorem tO{lo:Int}{n:Nat}{g:TG}{tb:TS}{D:mY}{σ:St}{H:Hp}(Z:Nat->St->Hp->Prop)(h0:Z 0 σ H)
  (hs:∀i σ H,i<n->Z i σ H->g (.int (lo+i)) σ H fun Y H2=>tb {D with nx:=Z (i+1),ct:=Z (i+1),bk:=D.nx} Y H2) (hd:∀σ H,Z n σ H->D.nx σ H) :
  ∃W:Nat->Nat->St->Hp->Prop,(∃m,W 0 m σ H)/\∀i m σ H,W i m σ H ->
   ((Itr lo n).stop i H/\D.nx σ H)\/((Itr lo n).go i H/\∃N:St->Hp->Prop,(∀U H',N U H'->∃O,O<m/\W (i+1) O U H')/\∀x H',(Itr lo n).yld i H x H'->g x σ H' fun Y H2=>tb {D with nx:=N,ct:=N,bk:=D.nx} Y H2):=by
 refine{fun i m σ H=>m=n-i/\i<=n/\Z i σ H,{n,by simp,bV _,h0},?_};rintro i m σ H ⟨rfl,hi,p⟩
 by_cases V:i<n
 ·refine .inr {V,Z (i+1),fun U H' M=>{n-(i+1),by omega,rfl,V,M},fun x H' y=>?_};obtain⟨e,y⟩:=y;subst e y;exact hs i σ _ V p
 ·have e:i=n:=by omega
  subst e;exact .inl {ay _,hd σ H p}
theorem zX{c:TT}{tb:TS}{D:mY}{σ:St}{H:Hp}(Y:St->Hp->Prop)(μ:St->Hp->Nat)(h0:Y σ H)
  (hs:∀σ H,Y σ H->c σ H fun b H1=>if b=true then tb {D with nx:=fun Z H'=>Y Z H'/\μ Z H'<μ σ H,ct:=fun Z H'=>Y Z H'/\μ Z H'<μ σ H,bk:=D.nx} σ H1 else D.nx σ H1)
  (mono:∀σ H Q W,(∀b H1,Q b H1->W b H1)->c σ H Q->c σ H W):Fs c tb D σ H:=by
 refine{fun m σ H=>m=μ σ H/\Y σ H,{_,rfl,h0},?_};rintro m σ H ⟨rfl,p⟩;refine mono σ H _ _ (fun b H1 q=>?_) (hs σ H p)
 cases b with
 |true=>exact{_,fun Z H' ⟨V,l⟩=>{_,l,rfl,V},q}
 |false=>exact q
abbrev R2:=V->V->Hp->VK->Prop
def OpR(X:Cx)(f:af->af->Sem af)(r:R2):Prop:=
 ∀(pins:List (aa×Obj)) (s:ak) (σ:St) (H:Hp) (x y:V) (v u:af) (Q:VK),Inv X pins σ H s->RelV x v->RelV y u->r x y H Q ->
  aW (aZ X.prog X.w) X.A (f v u) (EP X pins σ Q) X.xe s
def UnR(X:Cx)(f:af->Sem af)(r:V->Hp->VK->Prop):Prop:=
 ∀(pins:List (aa×Obj)) (s:ak) (σ:St) (H:Hp) (x:V) (v:af) (Q:VK),Inv X pins σ H s->RelV x v->r x H Q ->
  aW (aZ X.prog X.w) X.A (f v) (EP X pins σ Q) X.xe s
def mB(X:Cx)(f:af)(r:List V->Hp->VK->Prop):Prop:=
 ∀(pins:List (aa×Obj)) (s:ak) (σ:St) (H:Hp) (xs:List V) (us:List af) (Q:VK),Inv X pins σ H s->c5 xs us->r xs H Q ->
  aW (aZ X.prog X.w) X.A (yC f us) (EP X pins σ Q) X.xe s
def TruR(X:Cx)(r:V->Hp->(Bool->Hp->Prop)->Prop):Prop:=
 ∀(pins:List (aa×Obj)) (s:ak) (σ:St) (H:Hp) (x:V) (v:af) (Q:Bool->Hp->Prop),Inv X pins σ H s->RelV x v->r x H Q ->
  aW (aZ X.prog X.w) X.A (truthy v) (TP X pins σ Q) X.xe s
def tOp(r:R2)(ta tb:TE):TE:=fun σ H Q=>ta σ H fun x H1=>tb σ H1 fun y H2=>r x y H2 Q
def tUn(r:V->Hp->VK->Prop)(ta:TE):TE:=fun σ H Q=>ta σ H fun x H1=>r x H1 Q
inductive RI(C:Int->Int->Prop)(g:Int->Int->V)(x y:V)(H:Hp)(Q:VK):Prop where
 |mk(i j:Int)(hx:x=.int i)(hy:y=.int j)(c:C i j)(q:Q (g i j) H):RI C g x y H Q
def rI(C:Int->Int->Prop)(g:Int->Int->V):R2:=fun x y H Q=>RI C g x y H Q
inductive RI0(g:Int->Int->V)(x y:V)(H:Hp)(Q:VK):Prop where
 |mk(i j:Int)(hx:x=.int i)(hy:y=.int j)(q:Q (g i j) H):RI0 g x y H Q
def rI0(g:Int->Int->V):R2:=fun x y H Q=>RI0 g x y H Q
inductive RU(g:Int->V)(x:V)(H:Hp)(Q:VK):Prop where
 |mk(i:Int)(hx:x=.int i)(q:Q (g i) H):RU g x H Q
def rU(g:Int->V):V->Hp->VK->Prop:=fun x H Q=>RU g x H Q
section
variable{X:Cx}{a b c:cS}{ta tb tc:TE}{pos:Pos}
theorem ML(ha:PE X a ta)(hb:PE X b tb){pins:List (aa×Obj)}{s:ak}{σ:St}{H:Hp}{R:V->V->Hp->Prop}(I:Inv X pins σ H s)
  (h:ta σ H fun x H1=>tb σ H1 fun y H2=>R x y H2) {Q:af->ak->Prop} {f:af->af->Sem af}
  (J:∀v u s2 x y H2,Inv X pins σ H2 s2->RelV x v->RelV y u->R x y H2->aW (aZ X.prog X.w) X.A (f v u) Q X.xe s2) :
  aW (aZ X.prog X.w) X.A (gf a X.env) (fun v Z=>aW (aZ X.prog X.w) X.A (gf b X.env) (fun u Y=>aW (aZ X.prog X.w) X.A (f v u) Q X.xe Y) X.xe Z) X.xe s:=by
 refine thn (ha pins s σ H _ I h) fun v W ⟨x,H1,U,r1,D⟩=>?_;refine thn (hb pins W σ H1 _ U D) fun u s2 ⟨y,H2,M,r2,O⟩=>?_;exact J v u s2 x y H2 M r1 r2 O
theorem cL{op:Jd}{r:R2}(ho:OpR X (iu op) r)(ha:PE X a ta)(hb:PE X b tb):PE X (.BinOp a op b pos) (tOp r ta tb):=by
 intro pins s σ H Q I h;exact wpAny_BinOp (ML ha hb I h fun v u s2 x y H2 Z W Y q=>ho pins s2 σ H2 x y v u Q Z W Y q)
theorem B9{op:UnaryOp}{r:V->Hp->VK->Prop}(ho:UnR X (unaryOp op) r)(ha:PE X a ta):PE X (.UnaryOp op a pos) (tUn r ta):=by
 intro pins s σ H Q I h;exact UnaryOp_ (thn (ha pins s σ H _ I h) fun v Y ⟨x,H1,W,r1,Z⟩=>ho pins Y σ H1 x v Q W r1 Z)
theorem opI{f:af->af->Sem af}{C:Int->Int->Prop}{g:Int->Int->Int}
  (Je:∀(i j:Int) (t u:Tok) (s:ak) (Q:af->ak->Prop) (E:af->ak->Prop),C i j->Q (.int (g i j) s.toks) {s with toks:=s.toks+1}->aW (aZ X.prog X.w) X.A (f (.int i t) (.int j u)) Q E s) :
  OpR X f (rI C fun i j=>.int (g i j)):=by
 intro pins s σ H x y v u Q I Y Z h;obtain⟨i,j,rfl,rfl,hc,q⟩:=h;obtain⟨t,rfl⟩:=Y;obtain⟨t',rfl⟩:=Z;exact Je i j t t' s _ _ hc {.int (g i j),H,I.tok _,{_,rfl},q}
theorem opI0{f:af->af->Sem af}{g:Int->Int->Int}
  (Je:∀(i j:Int) (t u:Tok) (s:ak) (Q:af->ak->Prop) (E:af->ak->Prop),Q (.int (g i j) s.toks) {s with toks:=s.toks+1}->aW (aZ X.prog X.w) X.A (f (.int i t) (.int j u)) Q E s) :
  OpR X f (rI0 fun i j=>.int (g i j)):=by
 intro pins s σ H x y v u Q I Y Z h;obtain⟨i,j,rfl,rfl,q⟩:=h;obtain⟨t,rfl⟩:=Y;obtain⟨t',rfl⟩:=Z;exact Je i j t t' s _ _ {.int (g i j),H,I.tok _,{_,rfl},q}
theorem Jf{f:af->af->Sem af}{g:Int->Int->Bool}
  (Je:∀(i j:Int) (t u:Tok) (s:ak) (Q:af->ak->Prop) (E:af->ak->Prop),Q (.bool (g i j)) s->aW (aZ X.prog X.w) X.A (f (.int i t) (.int j u)) Q E s) :
  OpR X f (rI0 fun i j=>.bl (g i j)):=by
 intro pins s σ H x y v u Q I Y Z h;obtain⟨i,j,rfl,rfl,q⟩:=h;obtain⟨t,rfl⟩:=Y;obtain⟨t',rfl⟩:=Z;exact Je i j t t' s _ _ {.bl (g i j),H,I,rfl,q}
def CDiv(i j:Int):Prop:=0<j/\j<1073741824
def Ef(i j:Int):Prop:=0<=j/\j<=1000000/\i.natAbs<2^64
def MP(i j:Int):Prop:=(-(2^64)<i/\i<2^64)\/(-(2^64)<j/\j<2^64)
theorem MP.ok{i j:Int}(h:MP i j):IntMulOk i j:=by
 rcases h with⟨h1,h2⟩|⟨h1,h2⟩
 ·exact .of_left (intBits_le_64 h1 h2)
 ·exact .of_right (intBits_le_64 h1 h2)
theorem gK:OpR X (iu .Add) (rI0 fun i j=>.int (i+j)):=opI0 fun _ _ _ _ _ _ _ q=>add_int q
theorem jn:OpR X (iu .Sub) (rI0 fun i j=>.int (i-j)):=opI0 fun _ _ _ _ _ _ _ q=>sub_int q
theorem rG:OpR X (iu .Mult) (rI MP fun i j=>.int (i*j)):=opI fun _ _ _ _ _ _ _ hc q=>mul_int q hc.ok
theorem Jg:OpR X (iu .FloorDiv) (rI CDiv fun i j=>.int (i/j)):=opI fun i j _ _ _ _ _ hc q=>by
 have h1:(0:Int)<j:=hc.1;have h2:j<1073741824:=hc.2;exact Fz (by omega) (by rw[yD i (by omega)];exact q) (.inl (yE (by omega)))
theorem rH:OpR X (iu .Mod) (rI (fun _ j=>0<j) fun i j=>.int (i%j)):=opI fun i j _ _ _ _ _ hc q=>by
 have h1:(0:Int)<j:=hc;exact mod_int' (by omega) (by rw[Int.fmod_eq_emod_of_nonneg i (by omega)];exact q)
theorem Jh:OpR X (iu .Mod) (rI (fun _ j=>j≠0) fun i j=>.int (i.fmod j)):=opI fun _ _ _ _ _ _ _ hc q=>mod_int' hc q
theorem rJ:OpR X (iu .Pow) (rI Ef fun i j=>.int (i^j.toNat)):=opI fun _ _ _ _ _ _ _ hc q=>pow_int_small hc.1 hc.2.1 hc.2.2 q
theorem unI{f:af->Sem af}{g:Int->Int}
  (Je:∀(i:Int) (t:Tok) (s:ak) (Q:af->ak->Prop) (E:af->ak->Prop),Q (.int (g i) s.toks) {s with toks:=s.toks+1}->aW (aZ X.prog X.w) X.A (f (.int i t)) Q E s) :
  UnR X f (rU fun i=>.int (g i)):=by
 intro pins s σ H x v Q I Z h;obtain⟨i,rfl,q⟩:=h;obtain⟨t,rfl⟩:=Z;exact Je i t s _ _ {.int (g i),H,I.tok _,{_,rfl},q}
theorem yF:UnR X (unaryOp .USub) (rU fun i=>.int (-i)):=unI fun _ _ _ _ _ q=>neg_int q
end
def scal:V->V->Bool
 |.non,.non=>true|.non,.int _=>true|.int _,.non=>true|.non,.bl _=>true|.bl _,.non=>true|.non,.str _=>true|.str _,.non=>true
 |.int _,.int _=>true|.bl _,.bl _=>true|.str _,.str _=>true|.byt _,.byt _=>true
 |.int _,.str _=>true|.str _,.int _=>true|.bl _,.str _=>true|.str _,.bl _=>true
 |_,_=>false
def rEq:R2:=fun x y H Q=>scal x y=true/\Q (.bl (decide (x=y))) H
def rNe:R2:=fun x y H Q=>scal x y=true/\Q (.bl (!decide (x=y))) H
theorem Ca{i j:Int}:decide (V.int i=V.int j)=(i==j):=by
 rw[pZ];simp
theorem FA{i j:Bool}:decide (V.bl i=V.bl j)=(i==j):=by
 rw[pZ];simp
theorem Cb{i j:Str}:decide (V.str i=V.str j)=(i==j):=by
 rw[pZ];simp
theorem Cc{i j:Array UInt8}:decide (V.byt i=V.byt j)=(i.toList==j.toList):=by
 rw[pZ]
 cases i
 cases j;simp
section
variable{X:Cx}{a b c:cS}{ta tb tc:TE}{pos:Pos}
theorem eW{pins:List (aa×Obj)}{σ:St}{H:Hp}{s:ak}{Q:VK}{k k':Bool}(I:Inv X pins σ H s)(q:Q (.bl k) H)(e:k=k'):EP X pins σ Q (.bool k') s:=by
 subst e;exact{.bl k,H,I,rfl,q}
theorem fh:OpR X (cN .Eq) rEq:=by
 intro pins s σ H x y v u Q I Y Z h;obtain⟨hs,q⟩:=h
 cases x with
 |non=>
  cases Y
  cases y with
  |non=>cases Z;exact PySem.EqNone.eq_none_none (eW I q (by simp))
  |bl j=>cases Z;exact PySem.EqNone.eq_none_bool (eW I q (by simp))
  |int j=>obtain⟨t',rfl⟩:=Z;exact PySem.EqNone.eq_none_int (eW I q (by simp))
  |str j=>obtain⟨t',rfl⟩:=Z;exact PySem.EqNone.eq_none_str (eW I q (by simp))
  |_=>exact absurd (show false=true from hs) bL
 |bl i=>
  cases Y
  cases y with
  |non=>cases Z;exact PySem.EqNone.eq_bool_none (eW I q (by simp))
  |bl j=>cases Z;exact eq_bool (eW I q FA)
  |str j=>obtain⟨t',rfl⟩:=Z;exact PySem.EqMixed.eq_bool_str (eW I q (by simp))
  |_=>exact absurd (show false=true from hs) bL
 |int i=>
  obtain⟨t,rfl⟩:=Y
  cases y with
  |non=>cases Z;exact PySem.EqNone.eq_int_none (eW I q (by simp))
  |int j=>obtain⟨t',rfl⟩:=Z;exact eq_int (eW I q Ca)
  |str j=>obtain⟨t',rfl⟩:=Z;exact PySem.EqMixed.eq_int_str (eW I q (by simp))
  |_=>exact absurd (show false=true from hs) bL
 |str i=>
  obtain⟨t,rfl⟩:=Y
  cases y with
  |non=>cases Z;exact PySem.EqNone.eq_str_none (eW I q (by simp))
  |bl j=>cases Z;exact PySem.EqMixed.eq_str_bool (eW I q (by simp))
  |int j=>obtain⟨t',rfl⟩:=Z;exact PySem.EqMixed.eq_str_int (eW I q (by simp))
  |str j=>obtain⟨t',rfl⟩:=Z;exact eq_str (eW I q Cb)
  |_=>exact absurd (show false=true from hs) bL
 |byt i=>
  obtain⟨t,rfl⟩:=Y
  cases y with
  |byt j=>obtain⟨t',rfl⟩:=Z;exact PySem.W.eq_bytes (eW I q Cc)
  |_=>exact absurd (show false=true from hs) bL
 |_=>cases y<;>exact absurd (show false=true from hs) bL
theorem K9:OpR X (cN .NotEq) rNe:=by
 intro pins s σ H x y v u Q I Y Z h;obtain⟨hs,q⟩:=h
 cases x with
 |non=>
  cases Y
  cases y with
  |non=>cases Z;exact PySem.EqNone.ne_none_none (eW I q (by simp))
  |bl j=>cases Z;exact PySem.EqNone.ne_none_bool (eW I q (by simp))
  |int j=>obtain⟨t',rfl⟩:=Z;exact PySem.EqNone.ne_none_int (eW I q (by simp))
  |str j=>obtain⟨t',rfl⟩:=Z;exact PySem.EqNone.ne_none_str (eW I q (by simp))
  |_=>exact absurd (show false=true from hs) bL
 |bl i=>
  cases Y
  cases y with
  |non=>cases Z;exact PySem.EqNone.ne_bool_none (eW I q (by simp))
  |bl j=>cases Z;exact ne_bool (eW I q (congrArg not FA))
  |str j=>obtain⟨t',rfl⟩:=Z;exact PySem.EqMixed.ne_bool_str (eW I q (by simp))
  |_=>exact absurd (show false=true from hs) bL
 |int i=>
  obtain⟨t,rfl⟩:=Y
  cases y with
  |non=>cases Z;exact PySem.EqNone.ne_int_none (eW I q (by simp))
  |int j=>obtain⟨t',rfl⟩:=Z;exact ne_int (eW I q (congrArg not Ca))
  |str j=>obtain⟨t',rfl⟩:=Z;exact PySem.EqMixed.ne_int_str (eW I q (by simp))
  |_=>exact absurd (show false=true from hs) bL
 |str i=>
  obtain⟨t,rfl⟩:=Y
  cases y with
  |non=>cases Z;exact PySem.EqNone.ne_str_none (eW I q (by simp))
  |bl j=>cases Z;exact PySem.EqMixed.ne_str_bool (eW I q (by simp))
  |int j=>obtain⟨t',rfl⟩:=Z;exact PySem.EqMixed.ne_str_int (eW I q (by simp))
  |str j=>obtain⟨t',rfl⟩:=Z;exact ne_str (eW I q (congrArg not Cb))
  |_=>exact absurd (show false=true from hs) bL
 |byt i=>
  obtain⟨t,rfl⟩:=Y
  cases y with
  |byt j=>obtain⟨t',rfl⟩:=Z;exact PySem.W.ne_bytes (eW I q (congrArg not Cc))
  |_=>exact absurd (show false=true from hs) bL
 |_=>cases y<;>exact absurd (show false=true from hs) bL
theorem rj:OpR X (cN .Lt) (rI0 fun i j=>.bl (decide (i<j))):=Jf fun _ _ _ _ _ _ _ q=>lt_int q
theorem op_le:OpR X (cN .LtE) (rI0 fun i j=>.bl (decide (i<=j))):=Jf fun _ _ _ _ _ _ _ q=>le_int q
theorem sj:OpR X (cN .Gt) (rI0 fun i j=>.bl (decide (j<i))):=Jf fun _ _ _ _ _ _ _ q=>gt_int q
theorem op_ge:OpR X (cN .GtE) (rI0 fun i j=>.bl (decide (j<=i))):=Jf fun _ _ _ _ _ _ _ q=>ge_int q
theorem bY(b:cS){op:OJ}(h:op≠.In:=by decide)(h2:op≠.NotIn:=by decide):jM op b=false:=by
 have e1:(op==CmpOp.In)=false:=by cases op<;>first|rfl|exact absurd rfl h
 have Z:(op==CmpOp.NotIn)=false:=by cases op<;>first|rfl|exact absurd rfl h2
 cases b<;>simp[jM,e1,Z]
theorem oG{op:OJ}{r:R2}(ho:OpR X (cN op) r)(ha:PE X a ta)(hb:PE X b tb)(hm:jM op b=false):PE X (.Compare a [op] [b] pos) (tOp r ta tb):=by
 intro pins s σ H Q I h;exact wpAny_Compare1 (ML ha hb I h fun v u s2 x y H2 Z W Y q=>ho pins s2 σ H2 x y v u Q Z W Y q) hm
def tTest(t:TE):TT:=fun σ H Q=>t σ H fun x H'=>BlI x H' Q
theorem bN{op:OJ}{r:R2}(ho:OpR X (cN op) r)(ha:PE X a ta)(hb:PE X b tb)(hm:jM op b=false):PT X (.Compare a [op] [b] pos) (tTest (tOp r ta tb)):=by
 intro pins s σ H Q I h;refine IS (thn (ha pins s σ H _ I h) fun v Z ⟨x,H1,W,r1,J⟩=>thn (hb pins Z σ H1 _ W J) fun u s2 ⟨y,H2,O,r2,U⟩=>
  thn (ho pins s2 σ H2 x y v u _ O r1 r2 U) fun c D ⟨z,V,M,r3,k,e,Y⟩=>?_) hm
 subst e
 cases r3;exact i5 ⟨V,M,Y⟩
def TruV(K:ae)(x:V)(H:Hp)(k:Bool):Prop:=
 match x with
 |.non=>k=false
 |.bl b=>k=b
 |.int i=>k=(i != 0)
 |.str y=>y.length<=aB/\k=((y.length:Int) != 0)
 |.byt y=>y.size<=aB/\k=((y.size:Int) != 0)
 |.ref p=>(∃xs,SqL K H p xs/\k=!xs.isEmpty)\/(∃xs,SqT K H p xs/\k=!xs.isEmpty)\/∃kvs,H p=some (.dK kvs)/\k=!kvs.isEmpty
 |_=>False
theorem A9{κ:Type}{kvs:List (κ×V)}{vs:List (κ×af)}(r:KV kvs vs):(!vs.isEmpty)=!kvs.isEmpty:=by
 cases r<;>rfl
theorem vS{xs:List V}{Z:List af}(r:c5 xs Z):(!Z.toArray.isEmpty)=!xs.isEmpty:=by
 cases r<;>simp
theorem tP:(aB:Nat)<2^63:=by rw[me];decide
theorem MT:TruR X (fun x H Q=>∃k,TruV X.K x H k/\Q k H):=by
 intro pins s σ H x v Q I Y h;obtain⟨k,e,q⟩:=h;have hl:=tP;have hs:aB=16777216:=me
 cases x with
 |non=>
  cases Y;have e':k=false:=e;subst e';exact truthy_none ⟨H,I,q⟩
 |bl b=>
  cases Y;have e':k=b:=e;subst e';exact i5 ⟨H,I,q⟩
 |int i=>
  obtain⟨t,rfl⟩:=Y;have e':k=(i != 0):=e;subst e';exact PySem.P.truthy_int ⟨H,I,q⟩
 |str y=>
  obtain⟨t,rfl⟩:=Y;obtain⟨hy,e'⟩:y.length<=aB/\k=((y.length:Int) != 0):=e;subst e';exact PySem.P.truthy_str (by omega) {H,I.tok _,q}
 |byt y=>
  obtain⟨t,rfl⟩:=Y;obtain⟨hy,e'⟩:y.size<=aB/\k=((y.size:Int) != 0):=e;subst e';exact PySem.W.truthy_bytes (by omega) {H,I.tok _,q}
 |ref p=>
  cases Y;have e':(∃xs,SqL X.K H p xs/\k=!xs.isEmpty)\/(∃xs,SqT X.K H p xs/\k=!xs.isEmpty)\/∃kvs,H p=some (.dK kvs)/\k=!kvs.isEmpty:=e
  rcases e' with⟨xs,hx,e'⟩|⟨xs,hx,e'⟩|⟨kvs,hx,e'⟩
  ·subst e';obtain⟨V,r,pl,U⟩:=I.list hx;have Z:=r.length;exact wpAny_truthy_list pl.isList (by simp only[aG];omega) {H,I.tok _,by rw[vS r];exact q}
  ·subst e';obtain⟨V,r,pl,U⟩:=I.tuple hx;have Z:=r.length;exact truthy_tuple pl (by simp only[aG];omega) {H,I.tok _,by rw[vS r];exact q}
  ·subst e';obtain⟨U,O,vs,r,m⟩:kvs.length<=aB/\(p==gc)=false/\∃vs,KV kvs vs/\s.heap.DictOf (gb X.prog X.w) p vs:=I.hok p _ hx;have Z:kvs.length=vs.length:=aO r;exact wpAny_truthy_dict O m (by omega) {H,I.tok _,by rw[A9 r];exact q}
 |_=>exact (show False from e).elim
theorem vT(ha:PE X a ta)(V:∀Z,Fl a X.env Z=(do let v <- Z;xm a.pos;rE [v] (truthy v))) :
  PT X a (fun σ H Q=>ta σ H fun x H'=>∃k,TruV X.K x H' k/\Q k H'):=by
 intro pins s σ H Q I h;exact isTrue_plain (thn (ha pins s σ H _ I h) fun v Y ⟨x,H1,W,r1,U⟩=>MT pins Y σ H1 x v Q W r1 U) (V _)
theorem vU:OpR X (iu .Add) (fun x y H Q=>∃i j,x=.str i/\y=.str j/\i.length+j.length<=aB/\Q (.str (i++j)) H):=by
 intro pins s σ H x y v u Q I W Y h;obtain⟨i,j,rfl,rfl,Z,q⟩:=h;obtain⟨t,rfl⟩:=W;obtain⟨t',rfl⟩:=Y;exact add_str (fun t' tk=>{.str (i++j),H,I.tok _,{_,rfl},q}) Z
theorem vals1{x:V}{us:List af}(r:c5 [x] us):∃u,us=[u]/\RelV x u:=by
 cases r with
 |cons r1 r2=>cases r2;exact{_,rfl,r1}
theorem vals2{x y:V}{us:List af}(r:c5 [x,y] us):∃u Z,us=[u,Z]/\RelV x u/\RelV y Z:=by
 cases r with
 |cons r1 r2=>
  cases r2 with
  |cons r3 Y=>cases Y;exact{_,_,rfl,r1,r3}
theorem FB:mB X (.builtin "abs") (fun xs H Q=>∃i,xs=[.int i]/\Q (.int (if i<0 then -i else i)) H):=by
 intro pins s σ H xs us Q I r h;obtain⟨i,rfl,q⟩:=h;obtain⟨u,rfl,t,rfl⟩:=vals1 r;exact call_abs_int fun u tk=>{.int (if i<0 then -i else i),H,I.tok _,{_,rfl},q}
theorem xM(hc:X.calm=true):mB X (.builtin "max") (fun xs H Q=>∃i j,xs=[.int i,.int j]/\Q (.int (if j>i then j else i)) H):=by
 intro pins s σ H xs us Q I r h;obtain⟨i,j,rfl,q⟩:=h;obtain⟨u,Y,rfl,⟨t,rfl⟩,⟨t',rfl⟩⟩:=vals2 r;refine max_two_ints (I.ok.hd hc) fun h' tk k=>{_,H,I.kept k,?_,q}
 by_cases Z:j>i
 ·rw[if_pos Z,if_pos Z];exact{_,rfl}
 ·rw[if_neg Z,if_neg Z];exact{_,rfl}
theorem xO(hc:X.calm=true):mB X (.builtin "min") (fun xs H Q=>∃i j,xs=[.int i,.int j]/\Q (.int (if j<i then j else i)) H):=by
 intro pins s σ H xs us Q I r h;obtain⟨i,j,rfl,q⟩:=h;obtain⟨u,Y,rfl,⟨t,rfl⟩,⟨t',rfl⟩⟩:=vals2 r;refine min_two_ints (I.ok.hd hc) fun h' tk k=>{_,H,I.kept k,?_,q}
 by_cases Z:j<i
 ·rw[if_pos Z,if_pos Z];exact{_,rfl}
 ·rw[if_neg Z,if_neg Z];exact{_,rfl}
theorem qM:mB X (.type "int") (fun xs H Q=>(∃i,xs=[.int i]/\Q (.int i) H)\/∃k,xs=[.bl k]/\Q (.int (if k then 1 else 0)) H):=by
 intro pins s σ H xs us Q I r h
 rcases h with⟨i,rfl,q⟩|⟨k,rfl,q⟩
 ·obtain⟨u,rfl,t,rfl⟩:=vals1 r;exact call_int_int {.int i,H,I,{_,rfl},q}
 ·obtain⟨u,rfl,r1⟩:=vals1 r
  cases r1;exact call_int_bool {.int (if k then 1 else 0),H,I.tok _,{_,rfl},q}
end
structure Ba(h:cB)(x dx C:aa)(mA:Str->Option af):Prop where
 obj:h.get? x=some (gR C dx)
 ns:h.Ns1 dx mA
 ne:dx≠x
theorem Eg{h:cB}{dx:aa}{mA:Str->Option af}(n:h.Ns1 dx mA):∃od,h.get? dx=some od/\∀name,p0 name od=some (mA name):=by
 obtain⟨o,es,W,ho,hd,hk,_,hm⟩:=n;refine{o,ho,fun name=>?_};have e:=hm name;unfold nsFind findBy at e;rw[<- Array.find?_toList]at e;unfold p0;rw[hd];dsimp only
 split
 ·rename_i y q
  rw[q]at e;exact congrArg some e
 ·rename_i q
  rw[q]at e;have a:es.toList.any (·.refKey)=false:=by
   rw[List.any_eq_false];intro y hy;obtain⟨z,t,Z⟩:=hk y (Array.mem_toList_iff.mp hy);simp[DictEntry.refKey,Z]
  have Y:¬es.toList.any (·.refKey)=true:=by rw[a];exact bL
  rw[if_neg Y];exact congrArg some e
theorem Ba.look{h:cB}{x dx C:aa}{mA:Str->Option af}(I:Ba h x dx C mA):∃od,vV h x (gR C dx) C (some od)/\∀name,p0 name od=some (mA name):=
 let ⟨od,ho,hl⟩:=Eg I.ns
 {od,⟨I.obj,rfl,rfl,ho⟩,hl}
section
variable{prog:aK}{w:bD}{A:bX}{E:af->ak->Prop}{s:ak}{K:ae}{x dx C f:aa}{mA:Str->Option af}{name:Str}{v:af}
theorem Ji{Z:Bool}{Q:af->ak->Prop}(X:K.In s.heap)(I:Ba s.heap x dx C mA)(V:nF K C name=true)(hh:sy K C=true)
  (ha:aS K (.ref C) name=some none) (hv:mA name=some v) (Y:Eh v=true) (h:Q v {s with toks:=s.toks+1}) :
  aW (aZ prog w) A (getAttr (.ref x) name Z) Q E s:=by
 obtain⟨od,J,hl⟩:=I.look;exact PySem.W.get_value X J (qY V).1 (PySem.W.findObj_own hh ha rfl (by rw[hl,hv])) Y h
theorem FC{pl:Sem Bool}{Q:af×List af->ak->Prop}(X:K.In s.heap)(I:Ba s.heap x dx C mA)(Z:nF K C name=true)
  (Y:aS K (.ref C) name=some (some (.ref f))) (ht:oH K (.ref f)=true) (hv:mA name=none) (h:Q (.ref f,[.ref x]) s) :
  aW (aZ prog w) A (oC (.ref x) name pl) Q E s:=by
 obtain⟨od,J,hl⟩:=I.look;exact PySem.W.method_fn X J (qY Z).1 (qY Z).2 Y (beq_iff_eq.mp ht) (by show (p0 name od).map (·.isSome)=some false;rw[hl,hv];rfl) h
theorem Jj{ns:List Str}{Q:Unit->ak->Prop}(X:K.In s.heap)(I:Ba s.heap x dx C mA)
  (hs:aS K (.ref C) "__setattr__"=some (some (.builtin "object.__setattr__"))) (hp:Cd K C=true) (ht:uV K C name=some none) (hh:sy K C=true)
  (hw:zV mA ns) (hsz:ns.length<=aB)
  (h:∀h',Ba h' x dx C (fun y=>if y=name then some v else mA y)->uv dx s.heap h'->Q () {s with heap:=h',toks:=s.toks+2}) :
  aW (aZ prog w) A (setAttr (.ref x) name v) Q E s:=by
 obtain⟨od,J,hl⟩:=I.look;refine PySem.W.set_plain X J hs (PySem.W.osa_open (s:={s with toks:=s.toks+1}) (r:=none) X J hp ht fun b=>?_);obtain⟨z,hc,V⟩:=PySem.W.any_some hh;have hx:s.heap.get? x=some {.ref C,some dx,.plain,#[]}:=I.obj;refine ao (aU (ao (ao (wpAny_loadPart hx (ao (PySem.W.Looks.here (s:={s with toks:=s.toks+1}) (PySem.W.looks_clsIn X hc) ?_))))));rw[V];refine aU (a:=some dx) (ao (aU (ao ?_)));refine wpAny_nsSet1 (s:={s with toks:=s.toks+1}) I.ns fun h' Y Z=>?_;obtain⟨g,D,H,O,U,M⟩:=Y.count (PySem.Within.cons name v hw);refine ao (wpAny_lookBehind O (by rw[U];exact pastItsLine_dict (dA M (by rw[aR];omega))) ?_);exact aU (h _ {(Z.2 _ (gm I.ne)).trans I.obj,Y,I.ne} Z)
theorem FD{R:MU->ak->Prop}{vs:List af}{Z:List (Str×af)}(X:K.In s.heap)(hm:uW K C=true)
  (hi:aS K (.ref C) "__init__"=some (some (.ref f))) (Y:FE K (.ref f)=some (.type "function"))
  (h:pS (aZ prog w) (A.under (.builtin "type.__call__" {.ref C::vs,Z})) (.call (.ref f) {.ref (s.heap.objs.size+1)::vs,Z}) (PySem.W.InitBack (s.heap.objs.size+1) R)
   {s with heap:=(s.heap.push fi).push (gR C s.heap.objs.size)}) :
  pS (aZ prog w) A (.call (.ref C) ⟨vs,Z⟩) R s:=by
 obtain⟨hh,g,d,t,os⟩:=s;exact PySem.W.make_core (PySem.W.makes_of X hm) (kg X hi) (fun self=>PySem.W.bind_fn X self Y) (.inl rfl) h
end
def cJ(f:Str)(v:V):List (Str×V)->List (Str×V)
 | []=>[(f,v)]
 |(g,x)::r=>if g=f then (g,v)::r else (g,x)::cJ f v r
theorem ux(f g:Str)(v:V):∀fs:List (Str×V),(cJ f v fs).lookup g=if g=f then some v else fs.lookup g
 | []=>by
  show kO g [(f,v)]=_
  by_cases h:g=f
  ·have hb:(g==f)=true:=beq_iff_eq.mpr h;simp only[kO,hb,if_pos h]
  ·have hb:(g==f)=false:=beq_eq_false_iff_ne.mpr h;simp only[kO,hb,if_neg h]
 |(k,x)::r=>by
  have Z:=ux f g v r;rw[show cJ f v ((k,x)::r)=(if k=f then (k,v)::r else (k,x)::cJ f v r) from rfl]
  by_cases hk:k=f
  ·rw[if_pos hk]
   by_cases h:g=k
   ·have hb:(g==k)=true:=beq_iff_eq.mpr h;simp only[kO,hb,if_pos (h.trans hk)]
   ·have hb:(g==k)=false:=beq_eq_false_iff_ne.mpr h;simp only[kO,hb,if_neg (fun e:g=f=>h (e.trans hk.symm))]
  ·rw[if_neg hk]
   by_cases h:g=k
   ·have hb:(g==k)=true:=beq_iff_eq.mpr h;simp only[kO,hb,if_neg (fun e:g=f=>hk (h.symm.trans e))]
   ·have hb:(g==k)=false:=beq_eq_false_iff_ne.mpr h;simp only[kO,hb];exact Z
theorem tQ(f:Str)(v:V):∀fs:List (Str×V),f∈(cJ f v fs).map (·.1)/\∀g,g∈fs.map (·.1)->g∈(cJ f v fs).map (·.1)
 | []=>{by simp[cJ],fun g h=>by simp at h}
 |(k,x)::r=>by
  obtain⟨i1,i2⟩:=tQ f v r;rw[show cJ f v ((k,x)::r)=(if k=f then (k,v)::r else (k,x)::cJ f v r) from rfl]
  by_cases hk:k=f
  ·rw[if_pos hk];subst hk;exact{by simp,fun g h=>by simpa using h}
  ·rw[if_neg hk];refine{?_,fun g h=>?_}
   ·rw[cm];exact ag _ i1
   ·rw[cm]at h |-
    rcases ar.mp h with e|e
    ·exact ar.mpr (.inl e)
    ·exact ag _ (i2 g e)
theorem uy(f:Str)(v:V):∀fs:List (Str×V),(cJ f v fs).length<=fs.length+1
 | []=>by simp[cJ]
 |(k,x)::r=>by
  have Z:=uy f v r;rw[show cJ f v ((k,x)::r)=(if k=f then (k,v)::r else (k,x)::cJ f v r) from rfl]
  by_cases hk:k=f
  ·rw[if_pos hk,aR,aR];omega
  ·rw[if_neg hk,aR,aR];omega
theorem qW.some_of{v:V}{o:Option af}(r:qW (some v) o):∃u,o=some u/\RelV v u:=by
 cases o with
 |none=>exact (show False from r).elim
 |some u=>exact⟨u,rfl,r⟩
theorem qW.none_of{o:Option af}(r:qW none o):o=none:=by
 cases o with
 |none=>rfl
 |some u=>exact (show False from r).elim
theorem Ei{v:V}{u:af}(r:RelV v u):Eh u=true:=by
 cases v with
 |non=>cases (show u=Value.none from r);rfl
 |bl b=>cases (show u=Value.bool b from r);rfl
 |int i=>obtain⟨t,e⟩:=(show ∃t,u=Value.int i t from r);cases e;rfl
 |str x=>obtain⟨t,e⟩:=(show ∃t,u=Value.str x t from r);cases e;rfl
 |byt b=>obtain⟨t,e⟩:=(show ∃t,u=Value.bytes b t from r);cases e;rfl
 |flt b=>obtain⟨t,e⟩:=(show ∃t,u=Value.float b t from r);cases e;rfl
 |ref a=>cases (show u=Value.ref a from r);rfl
 |ty n=>cases (show u=Value.type n from r);rfl
section
variable{P:aK}{w:bD}{H H':Hp}{h h':cB}{a C dx:aa}{fs fs':List (Str×V)}
theorem vk(hok:HOk P w H h)(e:H a=some (.ins C dx fs)):∃mA,Ba h a dx C mA/\(∀f,qW (fs.lookup f) (mA f))/\zV mA (fs.map (·.1))/\fs.length<=1000/\H dx=some (.own a):=by
 obtain⟨d,z,ne,ob,mA,n,r,q⟩:=(show eO P w H h a (.ins C dx fs) from hok a _ e);exact{mA,⟨ob,n,ne⟩,r,q,z,d}
end
structure Cls(K:ae)(C:aa):Prop where
 pg:nF K C Str.empty=true
 hd:sy K C=true
 po:Cd K C=true
 sa:aS K (.ref C) "__setattr__"=some (some (.builtin "object.__setattr__"))
theorem Cls.get{K:ae}{C:aa}(c:Cls K C)(f:Str):nF K C f=true:=c.pg
def eI(K:ae)(C:aa)(f:Str):Prop:=aS K (.ref C) f=some none
theorem eI.taker{K:ae}{C:aa}{f:Str}(n:eI K C f):uV K C f=some none:=by
 unfold uV;rw[show aS K (.ref C) f=some none from n];rfl
structure yG(K:ae)(C:aa)(m:Str)(f:aa):Prop where
 at_:aS K (.ref C) m=some (some (.ref f))
 fn:oH K (.ref f)=true
 kp:gL K (.ref f)=true
section
variable{X:Cx}{pins:List (aa×Obj)}{σ:St}{H:Hp}{s:ak}{a C dx:aa}{fs:List (Str×V)}{f:Str}{v:V}{A:bX}{E:af->ak->Prop}
theorem vW{b:Bool}{Q:af->ak->Prop}(I:Inv X pins σ H s)(e:H a=some (.ins C dx fs))(c:Cls X.K C)(n:eI X.K C f)(l:fs.lookup f=some v)
  (h:∀u s',Inv X pins σ H s'->RelV v u->Q u s'):aW (aZ X.prog X.w) A (getAttr (.ref a) f b) Q E s:=by
 obtain⟨mA,O,r,_,_,_⟩:=vk I.hok e;obtain⟨u,hu,ru⟩:=qW.some_of (v:=v) (o:=mA f) (by rw[<- l];exact r f);exact Ji I.kIn O (c.get f) c.hd n hu (Ei ru) (h u _ (I.tok _) ru)
theorem rK{m:Str}{g:aa}{pl:Sem Bool}{Q:af×List af->ak->Prop}(I:Inv X pins σ H s)(e:H a=some (.ins C dx fs))(c:Cls X.K C)(k:yG X.K C m g)(l:fs.lookup m=none)
  (h:Q (.ref g,[.ref a]) s):aW (aZ X.prog X.w) A (oC (.ref a) m pl) Q E s:=by
 obtain⟨mA,O,r,_,_,_⟩:=vk I.hok e;have Z:mA m=none:=qW.none_of (by rw[<- l];exact r m);exact FC I.kIn O (c.get m) k.at_ k.fn Z h
theorem vX{y:V}{u:af}{Q:Unit->ak->Prop}(I:Inv X pins σ H s)(e:H a=some (.ins C dx fs))(c:Cls X.K C)(n:eI X.K C f)(hl:fs.length<1000)(U:RelV y u)
  (h:∀s',Inv X pins σ (upd H a (.ins C dx (cJ f y fs))) s'->Q () s'):aW (aZ X.prog X.w) A (setAttr (.ref a) f u) Q E s:=by
 obtain⟨mA,O,r,Y,_,ho⟩:=vk I.hok e;have W:(fs.map (·.1)).length<=aB:=by rw[av,me];omega
 refine Jj I.kIn O c.sa c.po n.taker c.hd Y W fun h' Z sb=>h _ ?_;have hd:∃o,h'.get? dx=some o:=let ⟨o,_,_,e',_⟩:=Z.ns;⟨o,e'⟩;refine I.write (x:=a) (e:=dx) (by rw[e];exact True.intro) (.inr ho) (fun b q hb z=>(sb.2 b hb).trans z) hd ?_;refine{by rw[aL O.ne];exact ho,?_,O.ne,Z.obj,_,Z.ns,fun g=>?_,fun g M=>?_}
 ·have:=uy f y fs;omega
 ·show qW ((cJ f y fs).lookup g) (if g=f then some u else mA g);rw[ux]
  by_cases q:g=f
  ·rw[if_pos q,if_pos q];exact U
  ·rw[if_neg q,if_neg q];exact r g
 ·by_cases q:g=f
  ·rw[q];exact (tQ f y fs).1
  ·refine (tQ f y fs).2 g (Y g fun z=>M ?_);show (if g=f then some u else mA g)=none;rw[if_neg q];exact z
theorem Inv.made(I:Inv X pins σ H s):Inv X pins σ (upd (upd H s.heap.objs.size (.own (s.heap.objs.size+1))) (s.heap.objs.size+1) (.ins C s.heap.objs.size []))
  {s with heap:=(s.heap.push fi).push (gR C s.heap.objs.size)}:=by
 have e1:(s.heap.push fi).get? s.heap.objs.size=some fi:=cz s.heap rfl;have W:((s.heap.push fi).push (gR C s.heap.objs.size)).get? (s.heap.objs.size+1)=some (gR C s.heap.objs.size):=by
  have:=cz (s.heap.push fi) (o:=gR C s.heap.objs.size) rfl
  rwa[xP]at this
 have e3:(s.heap.push fi).Ns s.heap.objs.size (fun _=>none):={fi,#[],_,e1,rfl,(fun e Z=>absurd Z (by simp)),fun _=>rfl};have Y:=I.laid (a:=s.heap.objs.size) (o:=.own (s.heap.objs.size+1)) (h':=s.heap.push fi) (t':=s.toks) (fun b u q=>aI _ q) (ay _) {_,e1};refine Y.laid (a:=s.heap.objs.size+1) (o:=.ins C s.heap.objs.size []) (t':=s.toks) (fun b u q=>aI _ q) (Bb (xP _ _)) ?_;have ne:s.heap.objs.size≠s.heap.objs.size+1:=aQ (vY _);refine{by rw[aL ne,ah],bV _,ne,W,fun _=>none,(Heap.Ns1.of_empty e3).at fun o q=>aI _ q,fun _=>True.intro,fun y hy=>absurd rfl hy}
theorem Jk{prog:aK}{w:bD}{env:Env}{e:cS}{f:Str}{pos:Pos}{s:ak}{Q:af->ak->Prop}(hb:lY e f env (gf e env)=gf e env)
  (h:aW (aZ prog w) A (gf e env) (fun o Z=>aW (aZ prog w) A (getAttr o f true) Q E Z) E s):aW (aZ prog w) A (gf (.Attribute e f pos) env) Q E s:=
 Attribute_any_ h (by rw[arm_eval_Attribute,hb])
end
inductive FldI(K:ae)(f:Str)(x:V)(H:Hp)(Q:VK):Prop where
 |mk(a C dx:aa)(fs:List (Str×V))(v:V)(hx:x=.ref a)(h:H a=some (.ins C dx fs))(c:Cls K C)(n:eI K C f)(e:fs.lookup f=some v)(q:Q v H):FldI K f x H Q
def FF(K:ae)(ta:TE)(f:Str):TE:=fun σ H Q=>ta σ H fun x H1=>FldI K f x H1 Q
def sFld(K:ae)(ta tv:TE)(f:Str):TS:=fun D σ H=>tv σ H fun y H1=>ta σ H1 fun x H2=>∃a C dx fs,x=.ref a/\H2 a=some (.ins C dx fs)/\Cls K C/\eI K C f/\fs.length<1000 /\
 D.nx σ (upd H2 a (.ins C dx (cJ f y fs)))
def InOp(X:Cx)(op:Jd)(rd:V->V->Hp->VK->Prop):Prop:=
 ∀(pins:List (aa×Obj)) (s:ak) (σ:St) (H:Hp) (x y:V) (u v:af) (Q:VK),Inv X pins σ H s->RelV x u->RelV y v->rd x y H Q->aW (aZ X.prog X.w) X.A (inplaceOp op u v) (EP X pins σ Q) X.xe s
def Jl(K:ae)(ta tv:TE)(rd:V->V->Hp->VK->Prop)(f:Str):TS:=fun D σ H=>ta σ H fun x H1=>∃a C dx fs v,x=.ref a/\H1 a=some (.ins C dx fs)/\Cls K C/\eI K C f/\fs.lookup f=some v /\
 tv σ H1 fun y H2=>rd v y H2 fun z Y=>∃Z fs',Y a=some (.ins C Z fs')/\fs'.length<1000/\D.nx σ (upd Y a (.ins C Z (cJ f z fs')))
section
variable{X:Cx}{o e value:cS}{f:Str}{pos pos' tpos:Pos}{ta tv:TE}
theorem cU(U:PE X e ta)(hb:lY e f X.env (gf e X.env)=gf e X.env):PE X (.Attribute e f pos) (FF X.K ta f):=by
 intro pins s σ H Q I h;refine Jk hb (thn (U pins s σ H _ I h) fun u O ⟨x,H1,W,Y,a,C,dx,fs,v,ex,Z,c,n,l,q⟩=>?_);subst ex;obtain rfl:u=Value.ref a:=Y;exact vW W Z c n l fun M s2 V ru=>⟨v,H1,V,ru,q⟩
theorem eP(ha:PE X o ta)(hv:PE X value tv)(hs:uw value (some (.Attribute o f pos')) pos.line X.env=pure false):PS X (.Assign [.Attribute o f pos'] value pos) (sFld X.K ta tv f):=by
 intro pins s σ H D I h;refine plainObj_wpAny_Assign_Attribute (thn (hv pins s σ H _ I h) fun u W ⟨y,H1,O,Y,q⟩=>thn (ha pins W σ H1 _ O q) fun V s2 ⟨x,H2,J,U,a,C,dx,fs,ex,Z,c,n,l,M⟩=>?_) hs;subst ex;obtain rfl:V=Value.ref a:=U;exact vX J Z c n l Y fun g z=>{σ,_,z,M}
theorem xQ{op:Jd}{rd:V->V->Hp->VK->Prop}(ha:PE X o ta)(hv:PE X value tv)(Z:InOp X op rd):PS X (.AugAssign (.Attribute o f tpos) op value pos) (Jl X.K ta tv rd f):=by
 intro pins s σ H D I h;refine wpAny_AugAssign_AttributeAny (thn (ha pins s σ H _ I h) fun ov s1 ⟨x,H1,I1,rx,a,C,dx,fs,v,ex,W,c,n,l,q⟩=>?_);subst ex;obtain rfl:ov=Value.ref a:=rx;refine vW I1 W c n l fun u s2 I2 ru=>thn (hv pins s2 σ H1 _ I2 q) fun g J ⟨y,H2,M,ry,U⟩=>thn (Z pins J σ H2 v y u g _ M ru ry U) fun w4 s4 ⟨z,H3,I4,rz,bS,fs',Y,l',q4⟩=>?_;exact vX I4 Y c n l' rz fun s5 O=>{σ,_,O,q4}
def rAdd:V->V->Hp->VK->Prop:=fun x y H Q=>∃i j,x=.int i/\y=.int j/\Q (.int (i+j)) H
theorem FG:InOp X .Add rAdd:=by
 rintro pins s σ H x y u v Q I Y Z ⟨i,j,rfl,rfl,q⟩;obtain⟨t,rfl⟩:=(show ∃t,u=Value.int i t from Y);obtain⟨t',rfl⟩:=(show ∃t',v=Value.int j t' from Z);exact PyProof.Rows.iadd_int {.int (i+j),H,I.tok _,{_,rfl},q}
theorem methcall_of{pl:Sem Bool}{m:Str}{apos:Pos}{args:List cS}{pins:List (aa×Obj)}{s:ak}{σ:St}{H:Hp}{Q:af->ak->Prop}{te:TE}(O:PE X e te)(I:Inv X pins σ H s)
  (h:te σ H fun x H1=>∃a C dx fs g,x=.ref a/\H1 a=some (.ins C dx fs)/\Cls X.K C/\yG X.K C m g/\fs.lookup m=none /\
   ∀Z,Inv X pins σ H1 Z->aW (aZ X.prog X.w) X.A (Bc pos (.ref g) [.ref a] (jm pos (cE args X.env)) (oI pos (jo [] X.env))) Q X.xe Z)
  (ht:gf (.Call (.Attribute e m apos) args [] pos) X.env=(do
   let Y <- gf e X.env
   xm apos.atName
   let (f,first) <- rE [Y] (oC Y m pl)
   Bc pos f first (jm pos (cE args X.env)) (oI pos (jo [] X.env)))) :
  aW (aZ X.prog X.w) X.A (gf (.Call (.Attribute e m apos) args [] pos) X.env) Q X.xe s:=by
 refine jR (pl:=pl) (thn (O pins s σ H _ I h) fun u Z ⟨x,H1,W,U,a,C,dx,fs,g,ex,V,c,k,l,q⟩=>?_) ht;subst ex;obtain rfl:u=Value.ref a:=U;exact rK W V c k l (q Z W)
end
section
variable{X:Cx}{pins:List (aa×Obj)}{σ:St}{H:Hp}{s:ak}{A:bX}{E:af->ak->Prop}{Q:af->ak->Prop}{c:af}{b:Bool}
inductive tR(K:ae)(H:Hp):V->af->Prop where
 |non:tR K H .non (.type "NoneType")
 |bl(x:Bool):tR K H (.bl x) (.type "bool")
 |int(i:Int):tR K H (.int i) (.type "int")
 |str(x:Str):tR K H (.str x) (.type "str")
 |flt(x:UInt64):tR K H (.flt x) (.type "float")
 |lst{a:aa}{xs:List V}(e:H a=some (.lst xs)):tR K H (.ref a) (.type "list")
 |frz{a:aa}{o:Obj}{xs:List V}(e:H a=some (.frz o (.lst xs))):tR K H (.ref a) (.type "list")
 |tup{a:aa}{xs:List V}(e:H a=some (.tup xs)):tR K H (.ref a) (.type "tuple")
 |dK{a:aa}{kvs:List (Key×V)}(e:H a=some (.dK kvs)):tR K H (.ref a) (.type "dict")
 |dT{a:aa}{kvs:List (List Key×V)}(e:H a=some (.dT kvs)):tR K H (.ref a) (.type "dict")
 |ins{a C dx:aa}{fs:List (Str×V)}(e:H a=some (.ins C dx fs))(cl:Cls K C)(ha:aS K (.ref C) "__class__"=some (some (.builtin "object.__class__")))
   (hn:Ce K (.builtin "object.__class__") "__get__"=some (some (.builtin "getset_descriptor.__get__"))) (htk:E7 K (.builtin "object.__class__")=some true)
   (hm:xn K C (.type "object")=some true):tR K H (.ref a) (.ref C)
theorem Ej{x:V}{u t:af}(I:Inv X pins σ H s)(Y:RelV x u)(ty:tR X.K H x t)(e:gN X.K t c=some b)(h:∀tk,Q (.bool b) {s with toks:=tk}) :
  aW (aZ X.prog X.w) A (yC (.builtin "isinstance") [u,c]) Q E s:=by
 cases ty with
 |non=>cases (show u=Value.none from Y);exact eS PySem.W.kitx_none I.kIn True.intro e (fun z=>nomatch z) h
 |bl y=>cases (show u=Value.bool y from Y);exact eS PySem.W.kitx_bool I.kIn True.intro e (fun z=>nomatch z) h
 |int i=>obtain⟨t,q⟩:=(show ∃t,u=Value.int i t from Y);cases q;exact eS PySem.W.kitx_int I.kIn True.intro e (fun z=>nomatch z) h
 |str y=>obtain⟨t,q⟩:=(show ∃t,u=Value.str y t from Y);cases q;exact eS PySem.W.kitx_str I.kIn True.intro e (fun z=>nomatch z) h
 |flt y=>obtain⟨t,q⟩:=(show ∃t,u=Value.float y t from Y);cases q;exact eS PySem.W.kitx_float I.kIn True.intro e (fun z=>nomatch z) h
 |@lst a xs Z=>
  cases (show u=Value.ref a from Y);obtain⟨_,_,n,_,h1⟩:=(show eO X.prog X.w H s.heap a (.lst xs) from I.hok a _ Z);exact eS Cf I.kIn {_,h1,rfl} e (fun z=>nomatch z) h
 |@frz a ob xs Z=>
  cases (show u=Value.ref a from Y);obtain⟨_,_,_,n,_,h1⟩:=(show eO X.prog X.w H s.heap a (.frz ob (.lst xs)) from I.hok a _ Z);exact eS Cf I.kIn {_,h1,rfl} e (fun z=>nomatch z) h
 |@tup a xs Z=>
  cases (show u=Value.ref a from Y);obtain⟨_,_,_,p⟩:=(show eO X.prog X.w H s.heap a (.tup xs) from I.hok a _ Z);obtain⟨o,h1,h2,_⟩:=p;exact eS PySem.W.kitx_tuple I.kIn ⟨o,h1,h2⟩ e (fun z=>nomatch z) h
 |@dK a kvs Z=>
  cases (show u=Value.ref a from Y);obtain⟨_,_,vs,_,p⟩:=(show eO X.prog X.w H s.heap a (.dK kvs) from I.hok a _ Z);obtain⟨o,es,M,h1,h2,_⟩:=p;exact eS Cg I.kIn ⟨o,h1,h2.1⟩ e (fun z=>nomatch z) h
 |@dT a kvs Z=>
  cases (show u=Value.ref a from Y);obtain⟨_,_,xs,_,o,es,M,h1,h2,_⟩:=(show eO X.prog X.w H s.heap a (.dT kvs) from I.hok a _ Z);exact eS Cg I.kIn ⟨o,h1,h2.1⟩ e (fun z=>nomatch z) h
 |@ins a C dx fs Z cl ha D U hm=>
  cases (show u=Value.ref a from Y);obtain⟨mA,O,_⟩:=vk I.hok Z;obtain⟨od,J,_⟩:=O.look;exact eS (PySem.W.kitx_own (cl.get _) cl.hd ha D U hm) I.kIn J e (fun z=>nomatch z) h
end
structure cX(k:Nat)(A:bX):Prop where
 hd:A.handled=none
 dp:A.depth+3*k+5<recursionLimit
 un:A.units+16*k+200<dY
theorem cX.mono{j k:Nat}{A:bX}(r:cX k A)(h:j<=k):cX j A:={r.hd,by have:=r.dp;omega,by have:=r.un;omega}
theorem cX.deeper{k:Nat}{A:bX}(r:cX (k+1) A)(env:Env):cX k (A.deeper env):=
 {r.hd,by have:=r.dp;show A.depth+1+3*k+5<_;omega,by have:=r.un;show A.units+3+16*k+200<_;omega}
theorem Bd{A:bX}{C:aa}{us:List af}{Z:List (Str×af)}:(A.under (.builtin "type.__call__" {.ref C::us,Z})).depth=A.depth+1:=by
 first|rfl|simp[zK,Code.weight,Code.isCreation,Code.isGuard,Code.isCaller,Code.frames,AU,guardIds]
theorem Be{A:bX}{C:aa}{us:List af}{Z:List (Str×af)}:(A.under (.builtin "type.__call__" {.ref C::us,Z})).units=A.units+1:=by
 first|rfl|simp[zK,Code.cUnits,Code.frames,AU]
theorem cX.make{k:Nat}{A:bX}(r:cX (k+1) A)(C:aa)(us:List af)(Z:List (Str×af)):cX k (A.under (.builtin "type.__call__" {.ref C::us,Z})):=
 {r.hd,by have:=r.dp;rw[Bd];omega,by have:=r.un;rw[Be];omega}
theorem cX.depth{k:Nat}{A:bX}(r:cX k A):A.depth<recursionLimit:=by have:=r.dp;omega
theorem cX.units{k:Nat}{A:bX}(r:cX k A):A.units+64<dY:=by have:=r.un;omega
def zY:TA:=fun _ H Q=>Q [] H
def lB(ta:TE)(tr:TA):TA:=fun σ H Q=>ta σ H fun x H1=>tr σ H1 fun xs H2=>Q (x::xs) H2
section
variable{X:Cx}{e:cS}{es:List cS}{te:TE}{t:TA}{pos:Pos}
theorem ai:PA X [] zY:=fun _ _ _ _ H Q I h=>Calls.spliced_nil {[],H,I,.nil,h}
theorem aq(ha:PE X e te)(hr:PA X es t)(hs:cE (e::es) X.env=(false,gf e X.env)::cE es X.env:=by rfl):PA X (e::es) (lB te t):=by
 intro pos pins s σ H Q I h;rw[hs];show aW _ _ (spliced ((false,gf e X.env)::jm pos (cE es X.env))) _ _ s;refine Calls.spliced_cons (thn (ha pins s σ H _ I h) fun u Z ⟨x,H1,W,r1,U⟩=>?_);exact thn (hr pos pins Z σ H1 _ W U) fun us s2 ⟨xs,H2,V,r2,Y⟩=>{x::xs,H2,V,.cons r1 r2,Y}
def tTup(t:TA):TE:=fun σ H Q=>t σ H fun xs H1=>xs.length<=aB/\∀p,H1 p=none->Q (.ref p) (upd H1 p (.tup xs))
def tLst(t:TA):TE:=fun σ H Q=>t σ H fun xs H1=>xs.length<=aB/\∀p,H1 p=none->Q (.ref p) (upd H1 p (.lst xs))
theorem d9 {x1} (h:PA X es t):PE X (.Tuple es x1 pos) (tTup t):=by
 intro pins s σ H Q I hq;refine wpAny_Tuple_spliced (thn (h pos pins s σ H _ I hq) fun us Z ⟨xs,H1,Y,r,z,q⟩=>{by rw[<- r.length];exact z,?_});have W:H1 Z.heap.objs.size=none:=Y.hok.fresh (ay _);refine{.ref Z.heap.objs.size,upd H1 Z.heap.objs.size (.tup xs),Y.laid (t':=Z.toks) (fun b u e=>aI _ e) (ay _) ?_,rfl,q _ W};exact{z,us,r,{_,cz _ rfl,rfl,_,rfl}}
theorem eQ(h:PA X es t):PE X (.List es pos) (tLst t):=by
 intro pins s σ H Q I hq;refine wpAny_List_spliced (thn (h pos pins s σ H _ I hq) fun us Z ⟨xs,H1,Y,r,z,q⟩=>{by rw[<- r.length];exact z,?_});have W:H1 Z.heap.objs.size=none:=Y.hok.fresh (ay _);refine{.ref Z.heap.objs.size,upd H1 Z.heap.objs.size (.lst xs),Y.laid (t':=Z.toks) (fun b u e=>aI _ e) (ay _) ?_,rfl,q _ W};exact{z,us,0,r,cz _ rfl}
end
abbrev Sp:=List V->Hp->VK->XK->Prop
abbrev CXT:=List Env->Hp->ak->XK->af->ak->Prop
structure yH(P:aK)(w:bD)(K:ae)(mg:Str->Option af)(base:cB)(A:bX)(outer:List Env)(s:ak)(H:Hp):Prop where
 frames:A.frames=some outer
 mod:Mod K mg base
 bs:∀b o,base.get? b=some o->s.heap.get? b=some o/\H b=none
 bsz:base.objs.size<=s.heap.objs.size
 funs:s.heap.FunFrames base outer
 frf:∀b∈frs outer,H b=none
 hok:HOk P w H s.heap
 bare:pP s.gens
def CE(outer:List Env)(P:aK)(w:bD)(H:Hp)(s:ak)(Q:VK)(u:af)(s':ak):Prop:=
 ∃v H',s'.os=s.os/\pP s'.gens/\Un (frs outer) [] H H' s.heap s'.heap/\HOk P w H' s'.heap/\RelV v u/\Q v H'
def CR(CX:CXT)(outer:List Env)(P:aK)(w:bD)(H:Hp)(s:ak)(Q:VK)(E:XK)(r:MU)(s':ak):Prop:=
 match r with
 |.ok (.ret u)=>CE outer P w H s Q u s'
 |.ok _=>False
 |.error e=>CX outer H s E e s'
structure bC(P:aK)(w:bD)(K:ae)(mg:Str->Option af)(base:cB)(CX:CXT)(k:Nat)(f:aa)(fd:bU)(ps:List Str)(sp:Sp):Prop where
 len:∀vs H Q E,sp vs H Q E->vs.length=ps.length
 run:∀(A:bX) (outer:List Env) (s:ak) (H:Hp) (args:Args) (us:List af) (vs:List V) (Q:VK) (E:XK),cX k A->yH P w K mg base A outer s H->uz s fd args (ps.zip us)->c5 vs us->sp vs H Q E ->
  pS (aZ P w) A (.call (.ref f) args) (CR CX outer P w H s Q E) s
theorem yH.make{P:aK}{w:bD}{K:ae}{mg:Str->Option af}{base:cB}{A:bX}{outer:List Env}{s:ak}{H:Hp}(e:yH P w K mg base A outer s H)(C:aa)(us:List af)(Z:List (Str×af)) :
  yH P w K mg base (A.under (.builtin "type.__call__" {.ref C::us,Z})) outer s H:={by first|exact e.frames|(simpa[zK,Code.envs,AU,pushEnvs] using e.frames),e.mod,e.bs,e.bsz,e.funs,e.frf,e.hok,e.bare}
section
variable{X:Cx}{pins:List (aa×Obj)}{σ:St}{H:Hp}{s s':ak}
theorem Inv.env0(I:Inv X pins σ H s):yH X.prog X.w X.K X.mg X.base X.A X.stack s H:=
 {I.ok.frames,I.ok.mod,I.bs,dA I.ok.bsz I.sz,I.stack,I.stkFree,I.hok,I.bare}
theorem Inv.after{Q:VK}{u:af}(I:Inv X pins σ H s)(h:CE X.stack X.prog X.w H s Q u s'):EP X pins σ Q u s':=by
 obtain⟨v,H',os,bare,un,hok,r,q⟩:=h;obtain⟨hh,g,d,t,Z⟩:=s';obtain rfl:Z=s.os:=os;exact{v,H',I.call (h':=hh) (g':=g) (d':=d) (t':=t) (ch:=[]) un hok bare (fun b z=>absurd z (by simp)),r,q}
end
def La(sp:Sp)(dvs:List V)(E:XK)(t:TA):TE:=fun σ H Q=>t σ H fun vs H1=>sp (vs++dvs) H1 Q E
def Lb(C:aa)(m:Str)(sp:Sp)(dvs:List V)(E:XK)(ta:TE)(t:TA):TE:=fun σ H Q=>ta σ H fun x H1=>∃a dx fs,x=.ref a/\H1 a=some (.ins C dx fs)/\fs.lookup m=none /\
 t σ H1 fun vs H2=>sp (x::(vs++dvs)) H2 Q E
def Lc(C:aa)(sp:Sp)(dvs:List V)(E:XK)(t:TA):TE:=fun σ H Q=>t σ H fun vs H1=>∀x dx,H1 x=none->H1 dx=none->dx≠x ->
 sp (.ref x::(vs++dvs)) (upd (upd H1 dx (.own x)) x (.ins C dx [])) (fun v H2=>v=.non/\Q (.ref x) H2) E
def Binds(K:ae)(fd:bU)(ps:List Str)(ds:List af):Prop:=
 ∀(s:ak) (us:List af),K.In s.heap->(us++ds).length=ps.length->uz s fd {us,[]} (ps.zip (us++ds))
theorem Binds.all{K:ae}{fd:bU}{ps:List Str}(h:∀us:List af,us.length=ps.length->Bf fd {us,[]}=pure (ps.zip us)):Binds K fd ps []:=fun s us _ hl=>by
 rw[cq]at hl |-;exact .of_eq (h us hl)
def lC(CX:CXT)(X:Cx)(E:XK):Prop:=∀(pins:List (aa×Obj)) (σ:St) (H:Hp) (s:ak) (e:af) (s':ak),Inv X pins σ H s->CX X.stack H s E e s'->X.xe e s'
section
variable{X:Cx}{CX:CXT}{k:Nat}{f C:aa}{fd:bU}{ps:List Str}{sp:Sp}{dvs:List V}{ds:List af}{E:XK}{x m:Str}{p pos apos:Pos}{e o:cS}{es:List cS}{ta:TE}{t:TA}
theorem Bg{pins:List (aa×Obj)}{σ:St}{H:Hp}{s:ak}{Q:VK}{us:List af}{vs:List V}(F:bC X.prog X.w X.K X.mg X.base CX k f fd ps sp)(hr:cX k X.A)(hb:Binds X.K fd ps ds)(hd:c5 dvs ds)(hx:lC CX X E)
  (I:Inv X pins σ H s) (r:c5 vs us) (h:sp (vs++dvs) H Q E):aW (aZ X.prog X.w) X.A (yC (.ref f) us) (EP X pins σ Q) X.xe s:=by
 have r2:c5 (vs++dvs) (us++ds):=r.append hd;have hl:(us++ds).length=ps.length:=by rw[<- r2.length];exact F.len _ _ _ _ h
 refine Bh (nG (F.run X.A X.stack s H {us,[]} (us++ds) (vs++dvs) Q E hr I.env0 (hb s us I.kIn hl) r2 h) fun r s' hq=>?_)
 cases r with
 |error e=>exact hx pins σ H s e s' I hq
 |ok fl=>
  cases fl with
  |ret u=>exact I.after hq
  |next=>exact cV hq
  |brk=>exact cV hq
  |cont=>exact cV hq
theorem aM(F:bC X.prog X.w X.K X.mg X.base CX k f fd ps sp)(hr:cX k X.A)(V:Gl X x)(hm:X.mg x=some (.ref f))(hk:gL X.K (.ref f)=true)(hb:Binds X.K fd ps ds)(hd:c5 dvs ds)(hx:lC CX X E)
  (ha:PA X (e::es) t) (Z:(x==("__debug__":Str))=false:=by decide) (U:cE (e::es) X.env=(false,gf e X.env)::cE es X.env:=by rfl) (Y:(jm pos (cE es X.env)).any (·.1)=false:=by rfl) :
  PE X (.Call (.Name x p) (e::es) [] pos) (La sp dvs E t):=by
 intro pins s σ H Q I h;refine iD (rY I V hm ?_ Z);refine lD (h₀:=X.base) I.ok.mod.kin hk (thn (ha pos pins s σ H _ I h) fun us O ⟨vs,H1,W,r,q⟩=>{W.kIn,?_}) U Y;exact Bg F hr hb hd hx W r q
theorem eT{pl:Sem Bool}(D:PE X o ta)(c:Cls X.K C)(hm:yG X.K C m f)(F:bC X.prog X.w X.K X.mg X.base CX k f fd ps sp)(hr:cX k X.A)(hb:Binds X.K fd ps ds)(hd:c5 dvs ds)(hx:lC CX X E)(ha:PA X (e::es) t)
  (hst:cE (e::es) X.env=(false,gf e X.env)::cE es X.env:=by rfl) (Z:(jm pos (cE es X.env)).any (·.1)=false:=by rfl)
  (ht:gf (.Call (.Attribute o m apos) (e::es) [] pos) X.env=(do
   let Y <- gf o X.env
   xm apos.atName
   let (f,first) <- rE [Y] (oC Y m pl)
   Bc pos f first (jm pos (cE (e::es) X.env)) (oI pos (jo [] X.env))):=by rfl) :
  PE X (.Call (.Attribute o m apos) (e::es) [] pos) (Lb C m sp dvs E ta t):=by
 intro pins s σ H Q I h;refine jR (pl:=pl) (thn (D pins s σ H _ I h) fun u O ⟨x,H1,W,M,a,dx,fs,ex,U,l,q⟩=>?_) ht;subst ex;obtain rfl:u=Value.ref a:=M;refine rK W U c hm l ?_;refine lD (first:=[.ref a]) (h₀:=X.base) I.ok.mod.kin hm.kp (thn (ha pos pins O σ H1 _ W q) fun us s2 ⟨vs,H2,V,r,J⟩=>{V.kIn,?_}) hst Z;exact Bg (us:=.ref a::us) (vs:=.ref a::vs) F hr hb hd hx V (.cons rfl r) J
theorem kj{pl:Sem Bool}(U:PE X o ta)(c:Cls X.K C)(hm:yG X.K C m f)(F:bC X.prog X.w X.K X.mg X.base CX k f fd ps sp)(hr:cX k X.A)(hb:Binds X.K fd ps ds)(hd:c5 dvs ds)(hx:lC CX X E)
  (ht:gf (.Call (.Attribute o m apos) [] [] pos) X.env=(do
   let Y <- gf o X.env
   xm apos.atName
   let (f,first) <- rE [Y] (oC Y m pl)
   Bc pos f first (jm pos (cE [] X.env)) (oI pos (jo [] X.env))):=by rfl) :
  PE X (.Call (.Attribute o m apos) [] [] pos) (Lb C m sp dvs E ta zY):=by
 intro pins s σ H Q I h;refine jR (pl:=pl) (thn (U pins s σ H _ I h) fun u O ⟨x,H1,Z,V,a,dx,fs,ex,W,l,q⟩=>?_) ht;subst ex;obtain rfl:u=Value.ref a:=V;refine rK Z W c hm l ?_;exact AV (first:=[.ref a]) Z.kIn hm.kp (Bg (us:=[.ref a]) (vs:=[.ref a]) F hr hb hd hx Z (.cons rfl .nil) q)
structure Mk(K:ae)(C f:aa):Prop where
 makes:uW K C=true
 init:aS K (.ref C) "__init__"=some (some (.ref f))
 fn:oH K (.ref f)=true
 kp:gL K (.ref C)=true
theorem FH{pins:List (aa×Obj)}{σ:St}{H:Hp}{s:ak}{Q:VK}{us:List af}{vs:List V}(M:Mk X.K C f)(F:bC X.prog X.w X.K X.mg X.base CX k f fd ps sp)(hr:cX (k+1) X.A)(hb:Binds X.K fd ps ds)(hd:c5 dvs ds)
  (hx:lC CX X E) (I:Inv X pins σ H s) (r:c5 vs us)
  (h:∀x dx,H x=none->H dx=none->dx≠x->sp (.ref x::(vs++dvs)) (upd (upd H dx (.own x)) x (.ins C dx [])) (fun v H2=>v=.non/\Q (.ref x) H2) E) :
  aW (aZ X.prog X.w) X.A (yC (.ref C) us) (EP X pins σ Q) X.xe s:=by
 have hq:=h (s.heap.objs.size+1) s.heap.objs.size (I.hok.fresh (gs _)) (I.hok.fresh (ay _)) (aQ (vY _));have Y:=Inv.made (C:=C) I;have r2:c5 (V.ref (s.heap.objs.size+1)::(vs++dvs)) (Value.ref (s.heap.objs.size+1)::(us++ds)):=.cons rfl (r.append hd);have hl:(Value.ref (s.heap.objs.size+1)::us++ds).length=ps.length:=by
  have e:=r2.length;rw[F.len _ _ _ _ hq]at e;exact e.symm
 refine Bh (FD (f:=f) I.kIn M.makes M.init (beq_iff_eq.mp M.fn) (nG (F.run _ X.stack _ _ {Value.ref (s.heap.objs.size+1)::us,[]} (Value.ref (s.heap.objs.size+1)::(us++ds)) _ _ E (hr.make C us [])
  (Y.env0.make C us []) (hb _ (Value.ref (s.heap.objs.size+1)::us) Y.kIn hl) r2 hq) fun r s' Z=>?_))
 cases r with
 |error e=>exact hx pins σ _ _ e s' Y Z
 |ok fl=>
  cases fl with
  |ret u=>
   obtain⟨v,H',U,O,ev,W⟩:=Y.after Z;subst ev;exact{O,{V.ref (s.heap.objs.size+1),H',U,rfl,W}}
  |next=>exact cV Z
  |brk=>exact cV Z
  |cont=>exact cV Z
theorem iN(M:Mk X.K C f)(F:bC X.prog X.w X.K X.mg X.base CX k f fd ps sp)(hr:cX (k+1) X.A)(V:Gl X x)(hm:X.mg x=some (.ref C))(hb:Binds X.K fd ps ds)(hd:c5 dvs ds)(hx:lC CX X E)
  (ha:PA X (e::es) t) (Z:(x==("__debug__":Str))=false:=by decide) (U:cE (e::es) X.env=(false,gf e X.env)::cE es X.env:=by rfl) (Y:(jm pos (cE es X.env)).any (·.1)=false:=by rfl) :
  PE X (.Call (.Name x p) (e::es) [] pos) (Lc C sp dvs E t):=by
 intro pins s σ H Q I h;refine iD (rY I V hm ?_ Z);refine lD (h₀:=X.base) I.ok.mod.kin M.kp (thn (ha pos pins s σ H _ I h) fun us O ⟨vs,H1,W,r,q⟩=>{W.kIn,?_}) U Y;exact FH M F hr hb hd hx W r q
end
section
variable{X:Cx}{CX:CXT}{k:Nat}{f C:aa}{fd:bU}{ps ks:List Str}{sp:Sp}{E:XK}{x m:Str}{p pos apos kpos:Pos}{e o:cS}{es:List cS}{kws:List ON}{te ta:TE}{t tk:TA}{nm:Option Str}
variable{g:List af->List af->List af}{gV:List V->List V->List V}
end
structure bO(N P:List Str)(sc:lZ):Prop where
 kind:sc.kind=.function:=by rfl
 co:sc.isCoroutine=false:=by rfl
 gen:sc.isGenerator=false:=by rfl
 nd:N.Nodup:=by decide +kernel
 pre:N.take P.length=P:=by rfl
 par:∀x∈P,sc.names.lookup x=some .local\/sc.names.lookup x=some .cell:=by decide +kernel
 nofree:∀y∈sc.names,y.2≠.free:=by decide +kernel
theorem xR{kindOf:Str->Option kK}{x:Str}:∀{binds:List (Str×af)} {m:Str->Option af},(∀v,(x,v)∉binds)->E8 kindOf binds m x=m x
 | [],_,_=>rfl
 |(n,v)::r,m,h=>by
  unfold E8;rw[xR fun w hw=>h w (ag _ hw)]
  split
  ·have:x≠n:=by rintro rfl;exact h v aC
   simp[this]
  ·rfl
theorem xT{kindOf:Str->Option kK}{x:Str}:∀{binds:List (Str×af)} {m:Str->Option af},(∀v,(x,v)∉binds)->E9 kindOf binds m x=m x
 | [],_,_=>rfl
 |(n,v)::r,m,h=>by
  unfold E9;rw[xT fun w hw=>h w (ag _ hw)]
  split
  ·rfl
  ·have:x≠n:=by rintro rfl;exact h v aC
   simp[this]
theorem xU{kindOf:Str->Option kK}{x:Str}{v:af}:∀{P:List Str} {vs:List af} {i:Nat} {m:Str->Option af},P.Nodup->P[i]?=some x->vs[i]?=some v->kindOf x=some .local ->
  E8 kindOf (P.zip vs) m x=some v
 | [],_,_,_,_,h,_,_=>by simp at h
 |_::_,[],_,_,_,_,h,_=>by simp at h
 |p::P,w::vs,0,m,nd,h1,h2,hk=>by
  simp at h1 h2;subst h1;subst h2;show E8 kindOf ((p,w)::P.zip vs) m p=_;unfold E8;rw[xR fun v hv=>(cK.mp nd).1 (p4 hv).1,if_pos hk];simp
 |p::P,w::vs,i+1,m,nd,h1,h2,hk=>by
  show E8 kindOf ((p,w)::P.zip vs) m x=_;unfold E8;exact xU (i:=i) (cK.mp nd).2 (by simpa using h1) (by simpa using h2) hk
theorem xV{kindOf:Str->Option kK}{x:Str}{v:af}:∀{P:List Str} {vs:List af} {i:Nat} {m:Str->Option af},P.Nodup->P[i]?=some x->vs[i]?=some v->kindOf x≠some .local ->
  E9 kindOf (P.zip vs) m x=some v
 | [],_,_,_,_,h,_,_=>by simp at h
 |_::_,[],_,_,_,_,h,_=>by simp at h
 |p::P,w::vs,0,m,nd,h1,h2,hk=>by
  simp at h1 h2;subst h1;subst h2;show E9 kindOf ((p,w)::P.zip vs) m p=_;unfold E9;rw[xT fun v hv=>(cK.mp nd).1 (p4 hv).1,if_neg hk];simp
 |p::P,w::vs,i+1,m,nd,h1,h2,hk=>by
  show E9 kindOf ((p,w)::P.zip vs) m x=_;unfold E9;exact xV (i:=i) (cK.mp nd).2 (by simpa using h1) (by simpa using h2) hk
def start(N:List Str)(vs:List V):St:=vs.map some++cF (N.length-vs.length) none
def tS(CX:CXT)(P:aK)(w:bD)(K:ae)(mg:Str->Option af)(base:cB)(N:List Str)(Y:Str)(Z:lZ)(f:aa)(V:af)(A:bX)(outer:List Env)(s:ak)(H:Hp)(E:XK):Cx where
 prog:=P
 w:=w
 K:=K
 mg:=mg
 base:=base
 A:=A.deeper (tT Y Z s.heap.objs.size f V)
 N:=N
 s₀:=s
 H₀:=H
 env:=tT Y Z s.heap.objs.size f V
 outer:=outer
 stack:=tT Y Z s.heap.objs.size f V::outer
 ex:=[]
 calm:=true
 fn:=fun _=>true
 pn:=[]
 xe:=fun e s'=>aW (aZ P w) (A.deeper (tT Y Z s.heap.objs.size f V)) (AW (tT Y Z s.heap.objs.size f V) e) (fun _ W=>CX outer H s E e W) (fun e' W=>CX outer H s E e' W) s'
theorem zZ{sc:lZ}{n:Nat}{x:Str}(h:sc.names.lookup x=some .cell):∃c,(Fb n sc.names []).lookup x=some c:=by
 have q:=oJ sc.names n [] (.inl h);exact Option.isSome_iff_exists.mp q
theorem xW{CX:CXT}{P:aK}{w:bD}{K:ae}{mg:Str->Option af}{base:cB}{N ps:List Str}{Y:Str}{Z:lZ}{f:aa}{M:af}{A:bX}{outer:List Env}{s J:ak}{H:Hp}{E:XK}{us:List af}{vs:List V}
  (S:bO N ps Z) (hd:A.handled=none) (W:yH P w K mg base A outer s H) (hl:vs.length=ps.length) (r:c5 vs us)
  (x:InCallC s s.heap.objs.size (E8 (tT Y Z s.heap.objs.size f M).kindOf (ps.zip us) fun _=>none) (Fb (s.heap.objs.size+1) Z.names []) (E9 (tT Y Z s.heap.objs.size f M).kindOf (ps.zip us) fun _=>none) J) :
  Inv (tS CX P w K mg base N Y Z f M A outer s H E) [] (start N vs) H J:=by
 have I:ps.length<=N.length:=by have:=congrArg iW S.pre;rw[cM]at this;omega
 obtain⟨h1,tk,rfl,hk⟩:=x.done;have U:∀b:aa,b∉(tS CX P w K mg base N Y Z f M A outer s H E).ex:=fun b z=>absurd (show b∈([]:List aa) from z) (by simp);refine{{W.mod,S.kind,rfl,rfl,ay _,fun y z c h1 h2=>?_,fun y hy=>?_,fun y c _ h=>?_,fun _=>hd,Around.frames_deeper W.frames,.inr ⟨rfl,rfl⟩,fun b z=>absurd z (U b),W.bs,W.bsz,fun b _ _=>U b,fun b z=>absurd z (U b),W.funs,W.frf},
  rfl,W.bare,Un.kept hk,{_,x.toInCall.ns,fun i y v h1 h2 g=>?_},fun y c h=>{_,x.cell y c h},W.hok.fresh (ay _),fun y c h=>?_,fun p hp=>absurd (show p∈([]:List (aa×Obj)) from hp) (by simp),W.hok.kept hk,?_}
 ·exact name_of_addr x.apart (gC h1) (gC h2)
 ·have hy:Z.names.lookup y=some .cell\/Z.names.lookup y=some .free:=hy
  rcases hy with hy|hy
  ·exact zZ hy
  ·exact absurd rfl (S.nofree _ (gC hy))
 ·exact l8 (x.above y c (gC h))
 ·have hi:i<vs.length:=by
   unfold start at h2
   by_cases hi:i<vs.length
   ·exact hi
   ·rw[cP (by simpa using hi)]at h2;rw[o9]at h2
    split at h2<;>cases h2
  have ha:vs[i]?=some v:=by
   unfold start at h2;rw[eM (by simpa using hi),cC]at h2
   cases e:vs[i]? with
   |none=>rw[e]at h2;cases h2
   |some a=>rw[e]at h2;cases h2;rfl
  obtain⟨u,hu,D⟩:=r.get ha;have hp:ps[i]?=some y:=by
   rw[<- S.pre,zL (by omega)];exact h1
  have O:ps.Nodup:=by rw[<- S.pre];exact S.nd.sublist (uA _ _)
  refine{u,D,?_}
  rcases S.par y (cA hp) with k|k
  ·exact .inl {k,xU O hp hu k}
  ·obtain⟨c,e⟩:=zZ (n:=s.heap.objs.size+1) k;refine .inr {.inl k,c,e,?_};have q:=x.cell y c e;rw[xV O hp hu (by show Z.names.lookup y≠_;rw[k];decide)]at q;exact q
 ·exact W.hok.fresh (l8 (x.above y c (gC h)))
 ·unfold start;show _=N.length;rw[ax,av,km];omega
theorem Ld{CX:CXT}{P:aK}{w:bD}{K:ae}{mg:Str->Option af}{base:cB}{k:Nat}{f:aa}{name Y:Str}{U:Arguments}{O:List c9}{Z:lZ}{dV kV bW pm W ct oc:af}{an od:Option aa}
  {bS:Array (Option af)} {N ps:List Str} {sp:Sp} (lk:K.lookup f=some {oc,od,.func (fj name Y U O Z dV kV bW pm an W ct),bS}) (bI:jC K W Y=true) (S:bO N ps Z)
  (len:∀vs H Q E,sp vs H Q E->vs.length=ps.length)
  (D:∀(A:bX) (outer:List Env) (s:ak) (H:Hp) (vs:List V) (Q:VK) (E:XK),cX k (A.deeper (tT Y Z s.heap.objs.size f W))->sp vs H Q E ->
   ∃t,PSs (tS CX P w K mg base N Y Z f W A outer s H E) O t/\t {nx:=fun _ H'=>Q .non H',rt:=Q} (start N vs) H) :
  bC P w K mg base CX (k+1) f (fj name Y U O Z dV kV bW pm an W ct) ps sp:=by
 refine{len,fun A outer s H args us vs Q E hr e0 hb r g=>?_};have hl:=len _ _ _ _ g;have KX:K.In s.heap:=e0.mod.kin.keeps fun b o e=>(e0.bs b o e).1;have bP:s.heap.NoLimit:=e0.mod.nolimit.keeps fun b o e=>(e0.bs b o e).1;have z:∀y∈ps.zip us,Z.names.lookup y.1=some .local\/(Z.names.lookup y.1=some .cell/\((Fb (s.heap.objs.size+1) Z.names []).lookup y.1).isSome=true):=fun⟨n,v⟩ hy=>by
  rcases S.par n (p4 hy).1 with q|q
  ·exact .inl q
  ·exact .inr {q,oJ _ _ _ (.inl q)}
 refine IU hr.depth (KX _ _ lk) rfl S.co S.gen rfl (Bi KX bI) (hb _ _ _ _ ?_);refine Bj S.kind z fun env he s1 x=>?_;subst he;refine{bP.keeps x.toInCall.keep,codeAny_func ?_};obtain⟨t,ht,hq⟩:=D A outer s H vs Q E (hr.deeper _) g;have I:Inv (tS CX P w K mg base N Y Z f W A outer s H E) [] (start N vs) H s1:=xW S hr.hd e0 hl r x;refine eV (ht [] s1 (start N vs) H _ I hq) (fun fl s' hs=>?_) fun e s' hs=>hs;have fin:∀{M:St} {H':Hp} {v:V} {u:af},Inv (tS CX P w K mg base N Y Z f W A outer s H E) [] M H' s'->RelV v u->Q v H'->CE outer P w H s Q u s':=
  fun {M H' v u} J rv q=>⟨v,H',J.os,J.bare,J.base,J.hok,rv,q⟩
 cases fl with
 |ret u=>
  obtain⟨v,M,H',J,rv,q⟩:=hs;exact fin J rv q
 |next=>
  obtain⟨M,H',J,q⟩:=hs;exact fin (v:=V.non) (u:=Value.none) J rfl q
 |brk=>
  obtain⟨_,_,_,q⟩:=hs;exact cV q
 |cont=>
  obtain⟨_,_,_,q⟩:=hs;exact cV q
section
variable{X:Cx}{x:Str}{p pos:Pos}{e:cS}{es:List cS}{t:TA}{id T:String}{r:List V->Hp->VK->Prop}
def tCB(r:List V->Hp->VK->Prop)(t:TA):TE:=fun σ H Q=>t σ H fun vs H1=>r vs H1 Q
theorem cO(hc:mB X (.builtin id) r)(V:Gl X x)(hm:X.mg x=none)(hv:fg x=some (.builtin id))(ha:PA X (e::es) t)(M:x≠"__name__":=by decide)(Z:(x==("__debug__":Str))=false:=by decide)
  (O:cE (e::es) X.env=(false,gf e X.env)::cE es X.env:=by rfl) (Y:(jm pos (cE es X.env)).any (·.1)=false:=by rfl):PE X (.Call (.Name x p) (e::es) [] pos) (tCB r t):=by
 intro pins s σ H Q I h;refine iD (rD I V hm hv ?_ M Z);exact PyProof.Rows.callWith_builtin1 (thn (ha pos pins s σ H _ I h) fun us W ⟨vs,H1,U,r1,J⟩=>hc pins W σ H1 vs us Q U r1 J) O Y
theorem hV(hc:mB X (.type T) r)(V:Gl X x)(hm:X.mg x=none)(hv:fg x=some (.type T))(ha:PA X (e::es) t)(M:x≠"__name__":=by decide)(Z:(x==("__debug__":Str))=false:=by decide)
  (O:cE (e::es) X.env=(false,gf e X.env)::cE es X.env:=by rfl) (Y:(jm pos (cE es X.env)).any (·.1)=false:=by rfl):PE X (.Call (.Name x p) (e::es) [] pos) (tCB r t):=by
 intro pins s σ H Q I h;refine iD (rD I V hm hv ?_ M Z);exact ib (thn (ha pos pins s σ H _ I h) fun us W ⟨vs,H1,U,r1,J⟩=>hc pins W σ H1 vs us Q U r1 J) O Y
end
end L2
namespace HT
open PySem PyProof.Rows
def lexLt:List Int->List Int->Bool
 | [],[]=>false
 | [],_::_=>true
 |_::_,[]=>false
 |x::xs,y::ys=>if x=y then lexLt xs ys else decide (x<y)
theorem lexLt_cons(x y:Int)(xs ys:List Int):lexLt (x::xs) (y::ys)=if x=y then lexLt xs ys else decide (x<y):=rfl
theorem mZ:lexLt [] []=false:=rfl
theorem lE(y:Int)(ys:List Int):lexLt [] (y::ys)=true:=rfl
theorem lG(x:Int)(xs:List Int):lexLt (x::xs) []=false:=rfl
theorem vZ(A:bX)(s:ak)(a:Int)(t:Tok)(c:Int)(u:Tok):∃e,SeqAt.EqAt A s (.int a t) (.int c u) e/\(e=true↔a=c):=
 {(a==c),zM a t c u,by simp}
theorem FJ(A:bX)(s:ak)(a:Int)(t:Tok)(c:Int)(u:Tok)(prog:aK)(w:bD)(E:af->ak->Prop)(Q:af->ak->Prop)(h:Q (.bool (decide (a<c))) s) :
  aW (aZ prog w) A (pT .Lt (.int a t) (.int c u)) Q E s:=
 (PyProof.Rows.lt_int h:aW (aZ prog w) A (cN .Lt (.int a t) (.int c u)) Q E s)
section
open PySem.SeqAt
open PySem.AutoSeq1 (wpAny_loadPart')
open PySem.MeetsSeq PySem.MeetsSeq2 PySem.MeetsSeq3
theorem xo(l b:aa)(items Z:Array af)(n n2:Nat)(dd bS:Option aa)(sl bW:Array (Option af))(ns ms:List Int)(hi:dZ items.toList ns)(hj:dZ Z.toList ms) :
  Meets (iE.«tuple.__lt__» {[.ref l,.ref b],[]})
   (fun _ R s=>s.heap.get? l=some {cls:=.type "tuple",dict:=dd,data:=.seq items n,slots:=sl}/\s.heap.get? b=some {cls:=.type "tuple",dict:=bS,data:=.seq Z n2,slots:=bW} /\
    R (.ok (.ret (.bool (lexLt ns ms)))) s):=
 .of_wp fun prog w A R s h=>by
  obtain⟨hp,g,d,tk,os⟩:=s;obtain⟨hl,hb,h⟩:=h;have f2:=ja;have z1:items.size=ns.length:=by rw[<- hi.length];simp
  have z2:Z.size=ms.length:=by rw[<- hj.length];simp
  wp_walk using dy hl,dy hb,lH _ (fun rest b s'=>b.1=none/\s'=⟨hp,g,d,tk,os⟩/\∃(vs ws:List af) (V W:List Int),rest=vs.zip ws /\
   dZ vs V/\dZ ws W/\V.length+Z.size=W.length+items.size/\R (.ok (.ret (.bool (lexLt V W)))) ⟨hp,g,d,tk,os⟩) _
  case turn=>
   rintro⟨y,x⟩ rest b s' ⟨I,rfl,vs,ws,V,W,O,H,U,Y,J⟩
   cases H with
   |nil=>rw[uB]at O;cases O
   |cons a t z=>
    cases U with
    |nil=>rw[tG]at O;cases O
    |cons c u ca=>
     rw[e7]at O;injection O with bI D;injection bI with hy hx;subst hy hx;rw[lexLt_cons]at J;simp only[aR]at Y;obtain⟨e,he,M⟩:=vZ A.in1 ⟨hp,g,d,tk,os⟩ a t c u;refine ao (he prog w _ _ ?_)
     cases e with
     |true=>
      rw[if_pos (M.mp rfl)]at J
      wp_walk
      exact{rfl,rfl,_,_,_,_,D,z,ca,by omega,J}
     |false=>
      rw[if_neg (fun q=>absurd (M.mpr q) bL)]at J;have bP:=FJ A.in1 ⟨hp,g,d,tk,os⟩ a t c u prog w
      wp_walk using bP
      exact{_,rfl,by simpa using J}
  case fin=>
   rintro⟨b1,b2⟩ s' ⟨I,rfl,vs,ws,V,W,O,H,U,Y,J⟩;simp only at I;subst I;have hv:lexLt V W=decide (items.size<Z.size):=by
    cases H with
    |nil=>
     cases U with
     |nil=>
      simp only[cw]at Y;rw[mZ];exact (decide_eq_false (by omega)).symm
     |cons c u hw=>
      simp only[cw,aR]at Y;rw[lE];exact (decide_eq_true (by omega)).symm
    |cons a t hv=>
     cases U with
     |nil=>
      simp only[cw,aR]at Y;rw[lG];exact (decide_eq_false (by omega)).symm
     |cons c u hw=>
      rw[e7]at O
      cases O
   rw[hv]at J
   wp_walk
   exact{_,rfl,by simpa[jr] using J}
  case h=>
   exact{rfl,rfl,items.toList,Z.toList,ns,ms,rfl,hi,hj,by omega,h}
end
section
variable{prog:aK}{w:bD}{A:bX}{E:af->ak->Prop}{s:ak}
theorem lt_tupInts{l b:aa}{items Z:Array af}{ns ms:List Int}{Q:af->ak->Prop}(hl:qX s.heap l items)(hb:qX s.heap b Z)(hi:dZ items.toList ns)(I:dZ Z.toList ms)
  (hu:A.units<dY) (h:Q (.bool (lexLt ns ms)) s):aW (aZ prog w) A (cN .Lt (.ref l) (.ref b)) Q E s:=by
 obtain⟨⟨cls,dd,data,sl⟩,ho,hc,n,hd⟩:=id hl;obtain⟨⟨J,O,M,U⟩,Y,W,n2,V⟩:=id hb;simp only at hc hd W V;subst hc hd W V;exact kL (op:=.Lt) {_,ho,rfl} {_,Y,rfl} PySem.F.slot_tuple_lt PySem.F.entry_tuple_lt (PySem.F.args_tuple_lt_2 _ _) (xo l b items Z n n2 dd O sl U ns ms hi I)
  {ho,Y,show Value.bool (lexLt ns ms)≠Value.notImplemented/\Q (.bool (lexLt ns ms)) s from{(fun x=>nomatch x),h}} hu
theorem cat_tup{t b:aa}{vs Z:List af}{Q:af->ak->Prop}(ht:qX s.heap t vs.toArray)(hb:qX s.heap b Z.toArray)(hv:vs≠[])
  (h1:Z=[]->Q (.ref t) s) (h2:Z≠[]->Q (.ref s.heap.objs.size) {s with heap:=s.heap.push {cls:=.type "tuple",data:=.seq (vs++Z).toArray}})
  (hsz:vs.length+Z.length<=aB):aW (aZ prog w) A (iu .Add (.ref t) (.ref b)) Q E s:=by
 obtain⟨⟨cls,dd,data,sl⟩,ho,hc,n,hd⟩:=id ht;obtain⟨⟨J,V,M,W⟩,Y,U,n2,O⟩:=id hb;simp only at hc hd U O;subst hc hd U O;have e:vs.toArray++Z.toArray=(vs++Z).toArray:=by simp
 by_cases hw:Z=[]
 ·exact concat_meets {_,ho,rfl} {_,Y,rfl} noFill_tuple_add seq_tuple_add yI xX (xp _ _)
   (tuple_addW1 t b vs.toArray Z.toArray n n2 dd V sl W (by simpa using hv) (by simp[hw])) {ho,Y,h1 hw}
 ·refine concat_meets {_,ho,rfl} {_,Y,rfl} noFill_tuple_add seq_tuple_add yI xX (xp _ _)
   (tuple_addW2 t b vs.toArray Z.toArray n n2 dd V sl W (by simpa using hv) (by simpa using hw) (by rw[aG,aG];exact hsz)) {ho,Y,?_}
  rw[e];exact h2 hw
def sIx(n d:Nat):Option Int->Nat
 |none=>d
 |some v=>if v<0 then (v+(n:Int)).toNat else min v.toNat n
theorem sIx_none(n d:Nat):sIx n d none=d:=rfl
theorem sIx_nat(n d k:Nat):sIx n d (some (k:Int))=min k n:=by
 show (if (k:Int)<0 then ((k:Int)+(n:Int)).toNat else min (k:Int).toNat n)=min k n;rw[if_neg (by omega),uX]
theorem MV(n d:Nat)(hd:d<=n)(o:Option Int):sIx n d o<=n:=by
 cases o with
 |none=>exact hd
 |some v=>
  show (if v<0 then (v+(n:Int)).toNat else min v.toNat n)<=n
  by_cases hv:v<0
  ·rw[if_pos hv];omega
  ·rw[if_neg hv];exact Nat.min_le_right _ _
theorem Cj(v:Int)(n d:Nat):(if v<0 then max (v+(n:Int)) 0 else min v (n:Int))=((sIx n d (some v):Nat):Int):=by
 show (if v<0 then max (v+(n:Int)) 0 else min v (n:Int))=(((if v<0 then (v+(n:Int)).toNat else min v.toNat n):Nat):Int)
 by_cases hv:v<0
 ·simp only[if_pos hv];omega
 ·simp only[if_neg hv];omega
theorem Bm(lo hi:Option Int)(n:Nat):kM lo hi 1 (n:Int)=(((sIx n 0 lo:Nat):Int),((sIx n n hi:Nat):Int)):=by
 have h1:¬((1:Int)<0):=by omega
 unfold kM;simp only[h1,if_false];refine Prod.ext ?_ ?_
 ·cases lo with
  |none=>rfl
  |some v=>exact Cj v n 0
 ·cases hi with
  |none=>rfl
  |some v=>exact Cj v n n
theorem Bn(i j:Nat):iy (i:Int) (j:Int) 1=j-i:=by
 unfold iy;have h1:(1:Int)>0:=by omega
 simp only[h1,if_true,Int.ediv_one]
 split<;>omega
theorem v9{v:af}{o:Option Int}{Q:Option Int->ak->Prop}(p:yJ v o)(h:Q o s):aW (aZ prog w) A (Builtin.Slice.slicePartIndex v) Q E s:=by
 cases p with
 |none=>exact slicePart_none h
 |int i t=>exact slicePart_int h
theorem tU{sl:aa}{W V:af}{lo hi:Option Int}{n:Nat}{Q:Int×Int×Nat->ak->Prop}(hs:s.heap.IsSliceOf sl W V .none)(pl:yJ W lo)(pu:yJ V hi)
  (h:Q (((sIx n 0 lo:Nat):Int),1,sIx n n hi-sIx n 0 lo) s):aW (aZ prog w) A (sC (.ref sl) (pure (n:Int))) Q E s:=by
 obtain⟨os,Y,U,Z⟩:=id hs;unfold sC Builtin.Slice.sliceFields;refine ao (ao (mh Y Z (x:=W) rfl (ao (mh Y Z (x:=V) rfl (ao (mh Y Z (x:=.none) rfl (aU ?_)))))));refine ao (slicePart_none ?_);show aW _ _ (if ((1:Int)==0)=true then _ else _) _ _ s;rw[if_neg (by decide)];refine ao (v9 pl (ao (v9 pu (ao (aU ?_)))));show aW _ _ (match kM lo hi 1 (n:Int) with|(lo,hi)=>pure (lo,(1:Int),iy lo hi 1)) _ _ s;rw[Bm lo hi n];show aW _ _ (pure (((sIx n 0 lo:Nat):Int),(1:Int),iy ((sIx n 0 lo:Nat):Int) ((sIx n n hi:Nat):Int) 1)) _ _ s;rw[Bn];exact aU h
theorem FK(xs:Array af)(i k:Nat):((jz k).filterMap fun (m:Nat)=>xs[((i:Int)+(m:Int)*1).toNat]?).toArray=((xs.toList.drop i).take k).toArray:=by
 have e:(fun (m:Nat)=>xs[((i:Int)+(m:Int)*1).toNat]?)=fun m=>xs[i+m]?:=by
  funext m
  have:((i:Int)+(m:Int)*1).toNat=i+m:=by omega
  rw[this]
 rw[e];have:=pick_run xs i k;rw[List.filterMap_map]at this;have Z:((fun x=>xs[x]?) ∘ fun x=>i+x)=fun m=>xs[i+m]?:=rfl;rw[Z]at this;rw[this]
theorem getItem_tuple_cut{t sl:aa}{items:Array af}{M O:af}{lo hi:Option Int}{Q:af->ak->Prop}(ht:qX s.heap t items)(hs:s.heap.IsSliceOf sl M O .none)(pl:yJ M lo)(pu:yJ O hi)
  (hw:¬(sIx items.size 0 lo=0/\sIx items.size items.size hi=items.size))
  (h:Q (.ref s.heap.objs.size) {s with heap:=s.heap.push {cls:=.type "tuple",data:=.seq ((items.toList.drop (sIx items.size 0 lo)).take (sIx items.size items.size hi-sIx items.size 0 lo)).toArray}})
  (hsz:items.size<=aB):aW (aZ prog w) A (uC (.ref t) (.ref sl)) Q E s:=by
 have Z:sizeOk (.seq ((items.toList.drop (sIx items.size 0 lo)).take (sIx items.size items.size hi-sIx items.size 0 lo)).toArray):=by
  show ((items.toList.drop (sIx items.size 0 lo)).take (sIx items.size items.size hi-sIx items.size 0 lo)).toArray.size<=aB;rw[aG,cM,pf,gB];omega
 have I:sIx items.size items.size hi<=items.size:=MV _ _ (ay _) hi;obtain⟨os,V,U,J⟩:=id hs;have Y:s.TypeIs (.ref sl) "slice":=⟨os,V,U⟩;unfold uC
 try with_reducible refine e8 ?_
 first|refine ao (aU ?_)|skip
 refine ao (wpAny_sequenceKey ht.typeIs (by decide) ?_);refine ao (wpAny_callSpecial?_slot (name:=jW "__getitem__") ht.typeIs jt
  (qZ jt ht.typeIs entry_tuple_getitem ?_ (args_tuple_getitem _ _)))
 show aW _ _ (Builtin.Tuple.tupleItemsOf (.ref t) >>= _) _ _ s;refine ao (tupleItemsOf_ ht ?_);refine ao (FL Y ?_);rw[if_pos (by decide)];refine ao (tU hs pl pu ?_);have W:¬((((sIx items.size 0 lo:Nat):Int)==0&&(1:Int)==1&&(sIx items.size items.size hi-sIx items.size 0 lo)==items.size)=true):=by
  intro q;rw[jb,jb]at q;have D:((sIx items.size 0 lo:Nat):Int)=0:=eq_of_beq q.1.1;have H:sIx items.size items.size hi-sIx items.size 0 lo=items.size:=eq_of_beq q.2;exact hw {by omega,by omega}
 show aW _ _ (if (((sIx items.size 0 lo:Nat):Int)==0&&(1:Int)==1&&(sIx items.size items.size hi-sIx items.size 0 lo)==items.size)=true then _ else _) _ _ s;rw[if_neg W,FK]
 first
  |exact ao (m:=iG _) (jc (aU ⟨_,rfl,aU h⟩) Z)
  |exact ao (m:=iG _) (jc (ao (aU (aU ⟨_,rfl,aU h⟩))) Z)
  |exact ao (ao (m:=iG _) (jc (aU (aU ⟨_,rfl,aU h⟩)) Z))
  |exact ao (ao (m:=iG _) (jc (aU ⟨_,rfl,aU h⟩) Z))
end
end HT
namespace L2
open PySem PySem.Spec PyProof.Rows
abbrev TO:=St->Hp->(Option Int->Hp->Prop)->Prop
def PO(X:Cx)(e:Option cS)(t:TO):Prop:=
 ∀(pins:List (aa×Obj)) (s:ak) (σ:St) (H:Hp) (Q:Option Int->Hp->Prop),Inv X pins σ H s->t σ H Q ->
  aW (aZ X.prog X.w) X.A (evalPart e X.env) (fun u s'=>∃o H',Inv X pins σ H' s'/\yJ u o/\Q o H') X.xe s
def Jm:TO:=fun _ H Q=>Q none H
def tPart(t:TE):TO:=fun σ H Q=>t σ H fun x H1=>∃i,x=.int i/\Q (some i) H1
theorem intsAre_of{ns:List Int}:∀{us:List af},c5 (ns.map V.int) us->dZ us ns:=by
 induction ns with
 |nil=>intro us r;rw[uD]at r;cases r;exact .nil
 |cons n ns Z=>
  intro us r;rw[cm]at r
  cases r with
  |cons r1 r2=>
   obtain⟨t,e⟩:=r1;subst e;exact .cons n t (Z r2)
section
variable{X:Cx}{e:cS}{te:TE}{lo hi:Option cS}{tl th:TO}{pos p2:Pos}
theorem vm:PO X none Jm:=by
 intro pins s σ H Q I h;rw[evalPart_none];exact aU {none,H,I,.none,h}
theorem vn(h:PE X e te):PO X (some e) (tPart te):=by
 intro pins s σ H Q I hw;rw[evalPart_some];refine thn (h pins s σ H _ I hw) fun u W ⟨x,H1,Y,r1,Z⟩=>?_;obtain⟨i,rfl,q⟩:=Z;obtain⟨t,rfl⟩:=r1;exact{some i,H1,Y,.int i t,q}
def SlR(X:Cx)(r:V->Option Int->Option Int->Hp->VK->Prop):Prop:=
 ∀(pins:List (aa×Obj)) (s:ak) (σ:St) (H:Hp) (x:V) (v Y Z:af) (lo hi:Option Int) (sl:aa) (Q:VK),Inv X pins σ H s->RelV x v->s.heap.IsSliceOf sl Y Z .none->yJ Y lo->yJ Z hi->r x lo hi H Q ->
  ∃T id,MX (.type T) "__getitem__"=pure (some (.builtin id))/\s.TypeIs v T/\aW (aZ X.prog X.w) X.A (uC v (.ref sl)) (EP X pins σ Q) X.xe s
def tSl(r:V->Option Int->Option Int->Hp->VK->Prop)(te:TE)(tl th:TO):TE:=fun σ H Q=>te σ H fun x H1=>tl σ H1 fun l H2=>th σ H2 fun u Z=>r x l u Z Q
theorem sE{r:V->Option Int->Option Int->Hp->VK->Prop}(hr:SlR X r)(he:PE X e te)(hl:PO X lo tl)(hu:PO X hi th):PE X (.Subscript e (.Slice lo hi none p2) pos) (tSl r te tl th):=by
 intro pins s σ H Q I h;refine MY (thn (he pins s σ H _ I h) fun v J ⟨x,H1,z,r1,q1⟩=>?_);refine wpAny_Slice (thn (hl pins J σ H1 _ z q1) fun W s2 ⟨l,H2,I2,pl,g⟩=>thn (hu pins s2 σ H2 _ I2 g) fun Y Z ⟨u,U,I3,pu,O⟩=>?_);rw[evalPart_none];refine aU ?_;have I4:Inv X pins σ U {Z with heap:=Z.heap.push {cls:=.type "slice",data:=.fields #[W,Y,.none]}}:=I3.kept (t':=Z.toks) fun b ob q=>aI _ q;obtain⟨T,id,M,ht,D⟩:=hr pins {Z with heap:=Z.heap.push {cls:=.type "slice",data:=.fields #[W,Y,.none]}} σ U x v W Y l u Z.heap.objs.size Q I4 r1 (OO ..) pl pu O;show aW (aZ X.prog X.w) X.A (Ek e (.Slice lo hi none p2) v (.ref Z.heap.objs.size)) (EP X pins σ Q) X.xe {Z with heap:=Z.heap.push {cls:=.type "slice",data:=.fields #[W,Y,.none]}};exact tail_any (ops:=[.ref Z.heap.objs.size,v]) ht M D (by with_unfolding_all rfl)
def pG(xs:List V)(lo hi:Option Int):List V:=(xs.drop (HT.sIx xs.length 0 lo)).take (HT.sIx xs.length xs.length hi-HT.sIx xs.length 0 lo)
theorem p5(xs:List V)(lo hi:Option Int):(pG xs lo hi).length<=xs.length:=by
 unfold pG;rw[cM,pf];omega
def rSlT(K:ae):V->Option Int->Option Int->Hp->VK->Prop:=fun x lo hi H Q=>∃a xs,x=.ref a/\SqT K H a xs /\
 ¬(HT.sIx xs.length 0 lo=0/\HT.sIx xs.length xs.length hi=xs.length)/\∀p,H p=none->Q (.ref p) (upd H p (.tup (pG xs lo hi)))
theorem MZ:SlR X (rSlT X.K):=by
 intro pins s σ H x v O U lo hi sl Q I V hs pl pu h;obtain⟨a,xs,rfl,hx,hw,q⟩:=h
 cases V;obtain⟨Y,r,ht,W⟩:=I.tuple hx;have Z:Y.toArray.size=xs.length:=by rw[aG];exact r.length.symm
 refine{"tuple",_,jt.lookup,ht.typeIs,?_};refine HT.getItem_tuple_cut ht hs pl pu (by rw[Z];exact hw) ?_ (by rw[Z];exact W);rw[Z];refine{.ref s.heap.objs.size,_,I.laid (t':=s.toks) (o:=.tup (pG xs lo hi)) (fun b ob q=>aI _ q) (ay _) ?_,rfl,q _ (I.hok.fresh (ay _))};exact{dA (p5 xs lo hi) W,_,(r.drop (HT.sIx xs.length 0 lo)).take (HT.sIx xs.length xs.length hi-HT.sIx xs.length 0 lo),FM _ _}
def rLtT(K:ae):R2:=fun x y H Q=>∃a b ns ms,x=.ref a/\y=.ref b/\SqT K H a (ns.map V.int)/\SqT K H b (ms.map V.int)/\Q (.bl (HT.lexLt ns ms)) H
theorem M0(hu:X.A.units<dY):OpR X (cN .Lt) (rLtT X.K):=by
 intro pins s σ H x y v u Q I V W h;obtain⟨a,b,ns,ms,rfl,rfl,ha,hb,q⟩:=h
 cases V
 cases W;obtain⟨Y,r1,U,_⟩:=I.tuple ha;obtain⟨Z,r2,p2,_⟩:=I.tuple hb;have i1:dZ Y.toArray.toList ns:=intsAre_of r1;have i2:dZ Z.toArray.toList ms:=intsAre_of r2;exact HT.lt_tupInts U p2 i1 i2 hu {.bl (HT.lexLt ns ms),H,I,rfl,q}
def rCatT(K:ae):R2:=fun x y H Q=>∃a b xs ys,x=.ref a/\y=.ref b/\SqT K H a xs/\SqT K H b ys/\xs≠[]/\xs.length+ys.length<=aB /\
 (ys=[]->Q (.ref a) H)/\(ys≠[]->∀p,H p=none->Q (.ref p) (upd H p (.tup (xs++ys))))
theorem c5.nil_iff{xs:List V}{us:List af}(r:c5 xs us):us=[]↔xs=[]:=by
 cases r with
 |nil=>simp
 |cons _ _=>simp
theorem Ck:OpR X (iu .Add) (rCatT X.K):=by
 intro pins s σ H x y v u Q I V W h;obtain⟨a,b,xs,ys,rfl,rfl,ha,hb,hx,Z,M,U⟩:=h
 cases V
 cases W;obtain⟨O,r1,J,_⟩:=I.tuple ha;obtain⟨Y,r2,p2,_⟩:=I.tuple hb;refine HT.cat_tup J p2 (fun z=>hx (r1.nil_iff.mp z)) (fun z=>{.ref a,H,I,rfl,M (r2.nil_iff.mp z)}) (fun z=>?_) (by rw[<- r1.length,<- r2.length];exact Z);refine{.ref s.heap.objs.size,_,I.laid (t':=s.toks) (o:=.tup (xs++ys)) (fun b ob q=>aI _ q) (ay _) ?_,rfl,U (fun w=>z (r2.nil_iff.mpr w)) _ (I.hok.fresh (ay _))};exact{by rw[ax];exact Z,_,r1.append r2,FM _ _}
end
def ixN(n:Nat)(i:Int):Option Nat:=if 0<=i then (if i<n then some i.toNat else none) else if -(n:Int)<=i then some (i+n).toNat else none
def atI{Z:Type}(xs:List Z)(i:Int):Option Z:=(ixN xs.length i).bind fun j=>xs[j]?
theorem yK{n:Nat}{i:Int}{j:Nat}(h:ixN n i=some j):seqIndex? i n=some j/\j<n/\-(n:Int)<=i/\i<n:=by
 unfold ixN at h
 by_cases h0:0<=i
 ·rw[if_pos h0]at h
  by_cases h1:i<n
  ·rw[if_pos h1]at h;have e:i.toNat=j:=cQ h;exact{by rw[Jn h0 h1,e],by omega,by omega,h1}
  ·rw[if_neg h1]at h;cases h
 ·rw[if_neg h0]at h
  by_cases h1:-(n:Int)<=i
  ·rw[if_pos h1]at h;have e:(i+n).toNat=j:=cQ h;exact{by rw[FN (by omega) h1,e],by omega,h1,by omega}
  ·rw[if_neg h1]at h;cases h
theorem yL{Z:Type}{xs:List Z}{i:Int}{v:Z}(h:atI xs i=some v):∃j,seqIndex? i xs.length=some j/\xs[j]?=some v/\j<xs.length/\-(xs.length:Int)<=i/\i<xs.length:=by
 unfold atI at h
 cases e:ixN xs.length i with
 |none=>rw[e]at h;cases h
 |some j=>
  rw[e]at h;obtain⟨h1,h2,W,Y⟩:=yK e;exact⟨j,h1,h,h2,W,Y⟩
theorem jD{Z:Type}{xs:List Z}{j:Nat}{v:Z}(h:xs[j]?=some v):atI xs (j:Int)=some v:=by
 have Y:j<xs.length:=(aF.mp h).1;have e:ixN xs.length (j:Int)=some j:=by
  unfold ixN;rw[if_pos (by omega),if_pos (by omega)];simp
 unfold atI;rw[e];exact h
def Jo(b:cS):Prop:=∀o i,zN b false o i=operate [o,i] (uC o i)
def IxR(X:Cx)(r:R2):Prop:=
 ∀(value Z:cS) (pins:List (aa×Obj)) (s:ak) (σ:St) (H:Hp) (x y:V) (v u:af) (Q:VK),Inv X pins σ H s->RelV x v->RelV y u->r x y H Q ->
  zN Z false v u=operate [v,u] (uC v u)->aW (aZ X.prog X.w) X.A (Ek value Z v u) (EP X pins σ Q) X.xe s
def MtR(X:Cx)(id:String)(r:V->List V->Hp->VK->Prop):Prop:=
 ∀(pins:List (aa×Obj)) (s:ak) (σ:St) (H:Hp) (x:V) (xs:List V) (v:af) (us:List af) (Q:VK),Inv X pins σ H s->RelV x v->c5 xs us->r x xs H Q ->
  aW (aZ X.prog X.w) X.A (yC (.builtin id) (v::us)) (EP X pins σ Q) X.xe s
section
variable{X:Cx}{a b:cS}{ta tb:TE}{pos:Pos}
theorem bR{r:R2}(hr:IxR X r)(ha:PE X a ta)(hb:PE X b tb)(hs:Jo b):PE X (.Subscript a b pos) (tOp r ta tb):=by
 intro pins s σ H Q I h;exact MY (ML ha hb I h fun v u s2 x y H2 Z W Y q=>hr a b pins s2 σ H2 x y v u Q Z W Y q (hs _ _))
inductive RIxL(K:ae)(x y:V)(H:Hp)(Q:VK):Prop where
 |mk(p:aa)(xs:List V)(i:Int)(v:V)(hx:x=.ref p)(hy:y=.int i)(s:SqL K H p xs)(e:atI xs i=some v)(q:Q v H):RIxL K x y H Q
def M4(K:ae):R2:=fun x y H Q=>RIxL K x y H Q
inductive RIxT(K:ae)(x y:V)(H:Hp)(Q:VK):Prop where
 |mk(p:aa)(xs:List V)(i:Int)(v:V)(hx:x=.ref p)(hy:y=.int i)(s:SqT K H p xs)(e:atI xs i=some v)(q:Q v H):RIxT K x y H Q
def rIxT(K:ae):R2:=fun x y H Q=>RIxT K x y H Q
def rIxS:R2:=fun x y H Q=>∃z i c,x=.str z/\y=.int i/\z.length<=aB/\atI z.cps.toList i=some c/\Q (.str {#[c]}) H
theorem dB:IxR X (M4 X.K):=by
 intro value Y pins s σ H x y v u Q I J M h hs;obtain⟨p,xs,i,z,rfl,rfl,hq,D,q⟩:=h
 cases J;obtain⟨t,rfl⟩:=M;obtain⟨V,r,pl,hz⟩:=I.list hq;obtain⟨j,h1,h2,h3,g,O⟩:=yL D;obtain⟨w,U,W⟩:=r.get h2;have hl:=r.length;have hn:=tP;have fin:EP X pins σ Q w s:=⟨z,H,I,W,q⟩
 by_cases h0:0<=i
 ·have Z:i.toNat=j:=by
   rw[Jn h0 O]at h1;exact cQ h1
  exact item_listR pl.isList h0 (by omega) (by rw[Z];simpa using U) fin hs
 ·have Z:(i+(V.toArray.size:Int)).toNat=j:=by
   rw[FN (by omega) g]at h1;rw[aG,<- hl];exact cQ h1
  exact FO (x:=w) pl.isList.typeIs OP.lookup
   (wpAny_getItem_list_neg (Q:=fun r s'=>r=w/\EP X pins σ Q r s') pl.isList (by omega) (by rw[aG]<;>omega) (by omega) (by rw[Z];simpa using U) ⟨rfl,fin⟩) hs
theorem cv:IxR X (rIxT X.K):=by
 intro value Z pins s σ H x y v u Q I V W h hs;obtain⟨p,xs,i,z,rfl,rfl,hq,M,q⟩:=h
 cases V;obtain⟨t,rfl⟩:=W;obtain⟨U,r,pl,J⟩:=I.tuple hq;obtain⟨j,h1,h2,g,h4,D⟩:=yL M;obtain⟨w,O,Y⟩:=r.get h2;have hl:=r.length;have hn:=tP;have fin:EP X pins σ Q w s:=⟨z,H,I,Y,q⟩;exact FO (x:=w) pl.typeIs slot_tuple_getitem.lookup
  (getItem_tuple (j:=j) (Q:=fun r s'=>r=w/\EP X pins σ Q r s') pl (by omega) (by omega) (by rw[aG,<- hl];exact h1) (by simpa using O) ⟨rfl,fin⟩) hs
theorem FP:IxR X rIxS:=by
 intro value Z pins s σ H x y v u Q I V W h hs;obtain⟨z,i,c,rfl,rfl,J,O,q⟩:=h;obtain⟨t,rfl⟩:=V;obtain⟨t',rfl⟩:=W;obtain⟨j,h1,h2,D,M,Y⟩:=yL O;have hl:z.cps.toList.length=z.length:=by simp[Str.length]
 rw[hl]at h1 M Y;have g:=tP;exact tail_any (typeIs_str s z t) slot_str_getitem.lookup (getItem_str (c:=c) (by
  have e1:decide (i < -(2^63:Int))=false:=decide_eq_false (by omega);have U:decide (i≥2^63)=false:=decide_eq_false (by omega);rw[e1,U,Bool.or_false]) (by rw[h1];simpa using h2) {.str {#[c]},H,I.tok _,{_,rfl},q}) hs
theorem Bo(Z:List af)(n j:Nat)(u:af):df (·.setIfInBounds j u) {cls:=.type "list",data:=.seq Z.toArray n}={cls:=.type "list",data:=.seq (Z.set j u).toArray n}:=by
 simp[df]
theorem Inv.lst{pins:List (aa×Obj)}{σ:St}{H:Hp}{s:ak}{p:aa}{xs:List V}(I:Inv X pins σ H s)(h:H p=some (.lst xs)) :
  ∃(Z:List af) (n:Nat),c5 xs Z/\s.heap.get? p=some {cls:=.type "list",data:=.seq Z.toArray n}/\xs.length<=aB:=by
 obtain⟨z,Z,n,r,e⟩:=I.hok p _ h;exact⟨Z,n,r,e,z⟩
theorem Inv.lstUpd{pins:List (aa×Obj)}{σ:St}{H:Hp}{s:ak}{p:aa}{xs ys:List V}{Z its':List af}{n Y:Nat}{f:Obj->Obj}(I:Inv X pins σ H s)(h:H p=some (.lst xs))
  (ho:s.heap.get? p=some {cls:=.type "list",data:=.seq Z.toArray n}) (W:f {cls:=.type "list",data:=.seq Z.toArray n}={cls:=.type "list",data:=.seq its'.toArray Y}) (r:c5 ys its') (U:ys.length<=aB) (t:Nat) :
  Inv X pins σ (upd H p (.lst ys)) {s with heap:=s.heap.update p f,toks:=t}:=by
 have e:(s.heap.update p f).get? p=some {cls:=.type "list",data:=.seq its'.toArray Y}:=by
  rw[qN f ho (by rw[W]<;>rfl),W]
 refine I.write (x:=p) (e:=p) (by rw[h];trivial) (.inl rfl) (fun b u hb q=>(fX _ _ (gm hb)).trans q) {_,e} ?_;exact⟨U,its',Y,r,e⟩
def rSetL:V->V->V->Hp->(Hp->Prop)->Prop:=fun o i v H Q=>∃p xs k j,o=.ref p/\i=.int k/\H p=some (.lst xs)/\ixN xs.length k=some j/\Q (upd H p (.lst (xs.set j v)))
theorem sI:PSet X rSetL:=by
 intro pins s σ H o i v g iv u Q I D J z h;obtain⟨p,xs,k,j,rfl,rfl,hp,O,q⟩:=h
 cases D;obtain⟨t,rfl⟩:=J;obtain⟨Z,n,r,ho,M⟩:=I.lst hp;obtain⟨h1,h2,V,U⟩:=yK O;have hl:=r.length;have hn:=tP;have Y:Inv X pins σ (upd H p (.lst (xs.set j v))) {s with heap:=s.heap.update p (df (·.setIfInBounds j u))}:=
  I.lstUpd hp ho (Bo Z n j u) (r.set z j) (by rw[Jp];exact M) s.toks
 by_cases h0:0<=k
 ·have hk:k.toNat=j:=by
   rw[Jn h0 U]at h1;exact cQ h1
  exact PySem.W.ki_setAt ho h0 (by omega) (by rw[aG,<- hl];exact U) (by rw[hk];exact{_,Y,q})
 ·have hk:(k+(Z.toArray.size:Int)).toNat=j:=by
   rw[FN (by omega) V]at h1;rw[aG,<- hl];exact cQ h1
  exact PySem.W.ki_setBack ho (by omega) (by rw[aG,<- hl];exact V) (by omega) (by rw[hk];exact{_,Y,q})
theorem yM(lo hi:Option Int)(n:Nat):(mi lo hi none n).1=((HT.sIx n 0 lo:Nat):Int)/\(mi lo hi none n).2.1=((HT.sIx n n hi:Nat):Int)/\(mi lo hi none n).2.2=1:=by
 refine{?_,?_,rfl}
 ·cases lo with
  |none=>simp[mi,HT.sIx]
  |some i=>
   simp only[mi,HT.sIx,Fc,show (1:Int)>0 by decide,if_true]
   by_cases h:i<0
   ·simp only[h,if_true]<;>omega
   ·simp only[h,if_false]<;>omega
 ·cases hi with
  |none=>simp[mi,HT.sIx]
  |some i=>
   simp only[mi,HT.sIx,Fc,show (1:Int)>0 by decide,if_true]
   by_cases h:i<0
   ·simp only[h,if_true]<;>omega
   ·simp only[h,if_false]<;>omega
theorem xq(Z:List af)(lo hi:Option Int):slicePick Z.toArray lo hi none=((Z.drop (HT.sIx Z.length 0 lo)).take (HT.sIx Z.length Z.length hi-HT.sIx Z.length 0 lo)).toArray:=by
 obtain⟨h1,h2,Y⟩:=yM lo hi Z.toArray.size;unfold slicePick;rw[h1,h2,Y];simp only[sliceRange_one,pick_run,aG]<;>rfl
def rSlL(K:ae):V->Option Int->Option Int->Hp->VK->Prop:=fun x lo hi H Q=>∃a xs,x=.ref a/\SqL K H a xs/\∀p,H p=none->Q (.ref p) (upd H p (.lst (pG xs lo hi)))
theorem yN:SlR X (rSlL X.K):=by
 intro pins s σ H x v O U lo hi sl Q I W hs pl pu h;obtain⟨a,xs,rfl,hx,q⟩:=h
 cases W;obtain⟨V,r,ht,Y⟩:=I.list hx;have Z:=r.length;refine{"list",_,OP.lookup,ht.isList.typeIs,?_};refine wpAny_getItem_list_slice ht.isList hs pl pu .none (by simp) ?_ (by rw[aG]<;>omega);rw[xq,<- Z];refine{.ref s.heap.objs.size,_,I.laid (t':=s.toks) (o:=.lst (pG xs lo hi)) (fun b ob q=>aI _ q) (ay _) ?_,rfl,q _ (I.hok.fresh (ay _))};exact{dA (p5 xs lo hi) Y,_,0,(r.drop (HT.sIx xs.length 0 lo)).take (HT.sIx xs.length xs.length hi-HT.sIx xs.length 0 lo),cz _ rfl}
theorem ic:mB X (.builtin "len") (fun xs H Q=>∃p ys,xs=[.ref p]/\(SqL X.K H p ys\/SqT X.K H p ys)/\Q (.int ys.length) H):=by
 intro pins s σ H xs us Q I r h;obtain⟨p,ys,rfl,hq,q⟩:=h;obtain⟨u,rfl,U⟩:=vals1 r
 cases U;have O:=tP
 rcases hq with hq|hq
 ·obtain⟨Y,W,pl,V⟩:=I.list hq;have Z:=W.length;exact Calls.call_len_list pl.isList (by simp only[aG]<;>omega) {.int ys.length,H,I.tok _,{s.toks+1,by rw[aG,Z]},q}
 ·obtain⟨Y,W,pl,V⟩:=I.tuple hq;have Z:=W.length;exact len_tuple pl (by simp only[aG]<;>omega) {.int ys.length,H,I.tok _,{s.toks+1,by rw[aG,Z]},q}
theorem oK:mB X (.type "list") (fun xs H Q=>∃p ys,xs=[.ref p]/\(SqL X.K H p ys\/SqT X.K H p ys)/\∀l,H l=none->Q (.ref l) (upd H l (.lst ys))):=by
 intro pins s σ H xs us Q I r h;obtain⟨p,ys,rfl,hq,q⟩:=h;obtain⟨u,rfl,O⟩:=vals1 r
 cases O;have fin:∀(Z:List af),c5 ys Z->ys.length<=aB->∀(h':cB) (Y:Nat),(∀b o',s.heap.get? b=some o'->h'.get? b=some o') ->
   h'.get? s.heap.objs.size=some {cls:=.type "list",dict:=none,data:=.seq Z.toArray Y,slots:=#[]}->EP X pins σ Q (.ref s.heap.objs.size) {s with heap:=h'}:=fun Z W V h' Y kp e=>
  {.ref s.heap.objs.size,_,I.laid (t':=s.toks) kp (ay _) (show eO X.prog X.w _ h' _ (.lst ys) from⟨V,Z,Y,W,e⟩),rfl,q _ (I.hok.fresh (ay _))}
 rcases hq with hq|hq
 ·obtain⟨Z,W,pl,V⟩:=I.list hq;have U:=W.length;obtain⟨o,ho,hc,n,hd⟩:=pl.isList;exact call_list_seq p (.inl rfl) ho hc hd (fun h' Y kp e=>fin Z W V h' Y kp e) (by simp only[aG]<;>omega)
 ·obtain⟨Z,W,pl,V⟩:=I.tuple hq;have U:=W.length;obtain⟨o,ho,hc,n,hd⟩:=pl;exact call_list_seq p (.inr rfl) ho hc hd (fun h' Y kp e=>fin Z W V h' Y kp e) (by simp only[aG]<;>omega)
theorem xr:mB X (.type "tuple") (fun xs H Q=>∃p ys,xs=[.ref p]/\((SqL X.K H p ys/\∀l,H l=none->Q (.ref l) (upd H l (.tup ys)))\/(SqT X.K H p ys/\Q (.ref p) H))):=by
 intro pins s σ H xs us Q I r h;obtain⟨p,ys,rfl,h⟩:=h;obtain⟨u,rfl,O⟩:=vals1 r
 cases O
 rcases h with⟨hq,q⟩|⟨hq,q⟩
 ·obtain⟨Z,Y,pl,W⟩:=I.list hq;have V:=Y.length;refine call_tuple_list pl.isList (fun h' kp=>?_) (by simp only[aG]<;>omega);have U:Inv X pins σ H {s with heap:=h'}:=I.kept (t':=s.toks) kp;have M:Inv X pins σ (upd H h'.objs.size (.tup ys)) {s with heap:=h'.push {cls:=.type "tuple",data:=.seq Z.toArray}}:=
   U.laid (t':=s.toks) (fun b o e=>aI _ e) (ay _) (show eO X.prog X.w _ _ _ (.tup ys) from{W,Z,Y,FM _ _})
  exact{.ref h'.objs.size,_,M,rfl,q _ (U.hok.fresh (ay _))}
 ·obtain⟨Z,Y,pl,W⟩:=I.tuple hq;exact call_tuple_same pl {.ref p,H,I,rfl,q}
def tyV(K:ae)(T:String)(x:V)(H:Hp):Prop:=match x with
 |.str _=>T="str"
 |.int _=>T="int"
 |.ref p=>(T="list"/\∃xs,SqL K H p xs)\/(T="tuple"/\∃o,K.lookup p=some o/\o.cls=.type "tuple"/\o.dict=none) \/
   (T="dict"/\((∃kvs,H p=some (.dK kvs))\/∃kvs,H p=some (.dT kvs)))\/(T="set"/\∃S n,H p=some (.set S n))
 |_=>False
theorem FQ{pins:List (aa×Obj)}{σ:St}{H:Hp}{s:ak}{T:String}{x:V}{v:af}(I:Inv X pins σ H s)(r:RelV x v)(ty:tyV X.K T x H) :
  s.TypeIs v T/\∀a,v=.ref a->∃ob,s.heap.get? a=some ob/\ob.dict=none:=by
 cases x with
 |str z=>
  obtain⟨t,rfl⟩:=r
  cases (show T="str" from ty);exact{typeIs_str s z t,fun _ e=>nomatch e}
 |int i=>
  obtain⟨t,rfl⟩:=r
  cases (show T="int" from ty);exact{typeIs_int s i t,fun _ e=>nomatch e}
 |ref p=>
  cases r
  rcases ty with⟨rfl,xs,hq⟩|⟨rfl,o,hk,hc,hd⟩|⟨rfl,hk⟩|⟨rfl,S,n,hk⟩
  ·obtain⟨Y,_,pl,_⟩:=I.list hq;refine{pl.isList.typeIs,fun a e=>?_}
   cases e;obtain⟨o,n,e,c,hd,_⟩:=pl;exact⟨o,e,hd⟩
  ·refine{{o,I.kIn p o hk,hc},fun a e=>?_}
   cases e;exact{o,I.kIn _ o hk,hd}
  ·have z:∃o,s.heap.get? p=some o/\o.ExactDict:=by
    rcases hk with⟨kvs,hk⟩|⟨kvs,hk⟩
    ·obtain⟨_,_,_,_,o,_,_,e,ex,_⟩:=I.hok p _ hk;exact⟨o,e,ex⟩
    ·obtain⟨_,_,_,_,o,_,_,e,ex,_⟩:=I.hok p _ hk;exact⟨o,e,ex⟩
   obtain⟨o,e,ex⟩:=z;refine{⟨o,e,ex.1⟩,fun a Z=>?_}
   cases Z;exact⟨o,e,ex.2.1⟩
  ·obtain⟨o,_,_,_,e,ex,_⟩:=I.hok p _ hk;refine{⟨o,e,ex.1⟩,fun a Z=>?_}
   cases Z;exact⟨o,e,ex.2.1⟩
 |_=>exact cV ty
def tBM0(K:ae)(T:String)(r:V->List V->Hp->VK->Prop)(to:TE):TE:=fun σ H Q=>to σ H fun x H1=>tyV K T x H1/\r x [] H1 Q
def tBM(K:ae)(T:String)(r:V->List V->Hp->VK->Prop)(to:TE)(t:TA):TE:=fun σ H Q=>to σ H fun x H1=>tyV K T x H1/\t σ H1 fun xs H2=>r x xs H2 Q
variable{o e:cS}{es:List cS}{to:TE}{t:TA}{name:Str}{apos cpos:Pos}{T id:String}{r:V->List V->Hp->VK->Prop}
theorem M5(M:PlainAttrs T)(slot:Slot T name id)(W:typeOf (.builtin id)=pure (.type "method_descriptor"))(hm:MtR X id r)(ho:PE X o to)
  (Z:lY o name X.env (gf o X.env)=gf o X.env:=by rfl) (Y:(apos.endLine==cpos.line)=true:=by rfl):PE X (.Call (.Attribute o name apos) [] [] cpos) (tBM0 X.K T r to):=by
 intro pins s σ H Q I h;refine Fd Z Y (thn (ho pins s σ H _ I h) fun v U ⟨x,H1,V,r1,ty,O⟩=>?_);obtain⟨h1,h2⟩:=FQ V r1 ty;exact{T,id,M,slot,W,h1,h2,pH rfl (Cm (hm pins U σ H1 x [] v [] Q V r1 .nil O))}
theorem pz(pa:PlainAttrs T)(slot:Slot T name id)(U:typeOf (.builtin id)=pure (.type "method_descriptor"))(hm:MtR X id r)(ho:PE X o to)(ha:PA X (e::es) t)
  (Y:lY o name X.env (gf o X.env)=gf o X.env:=by rfl)
  (V:((jm cpos (cE (e::es) X.env)).all (fun x=>!x.1)&&(oI cpos (jo [] X.env)).all (fun x=>x.1.isSome)
  &&decide ((e::es).length+([]:List ON).length+(if ([]:List ON).isEmpty then 0 else 1)<30))=true:=by rfl)
  (W:(apos.endLine==cpos.line)=true:=by rfl) (hs:cE (e::es) X.env=(false,gf e X.env)::cE es X.env:=by rfl) (Z:(jm cpos (cE es X.env)).any (·.1)=false:=by rfl) :
  PE X (.Call (.Attribute o name apos) (e::es) [] cpos) (tBM X.K T r to t):=by
 intro pins s σ H Q I h;refine wpAny_Call_method_late Y V W rfl (thn (ho pins s σ H _ I h) fun v J ⟨x,H1,M,r1,ty,g⟩=>?_);obtain⟨h1,h2⟩:=FQ M r1 ty;refine{T,id,pa,slot,U,h1,h2,?_};have O:=ha cpos pins J σ H1 _ M g;rw[hs]at O |-;refine pH (by show (false||(jm cpos (cE es X.env)).any (·.1))=false;rw[Z]<;>rfl) (Bp ?_);exact thn O fun us s2 ⟨vs,H2,z,r2,D⟩=>hm pins s2 σ H2 x vs v us Q z r1 r2 D
end
def MtM(X:Cx)(id:String)(r:V->List V->Hp->VK->Prop):Prop:=
 ∀(pins:List (aa×Obj)) (s:ak) (σ:St) (H:Hp) (x:V) (xs:List V) (v:af) (us:List af) (Q:VK),Inv X pins σ H s->RelV x v->c5 xs us->r x xs H Q ->
  aW (aZ X.prog X.w) X.A (yC (.builtin id) (v::us)) (EP X pins σ Q) X.xe s
theorem c5.one:∀{x:V} {us:List af},c5 [x] us->∃u,us=[u]/\RelV x u
 |_,_,.cons r .nil=>{_,rfl,r}
theorem c5.two:∀{x y:V} {us:List af},c5 [x,y] us->∃u v,us=[u,v]/\RelV x u/\RelV y v
 |_,_,_,.cons r (.cons q .nil)=>{_,_,rfl,r,q}
theorem c5.zero:∀{us:List af},c5 [] us->us=[]
 |_,.nil=>rfl
theorem c5.dropLast{xs:List V}{us:List af}(h:c5 xs us):c5 xs.dropLast us.dropLast:=by
 induction h with
 |nil=>exact .nil
 |cons r t Z=>
  cases t with
  |nil=>exact .nil
  |cons q t'=>exact .cons r Z
theorem c5.eraseIdx:∀{xs:List V} {us:List af} (i:Nat),c5 xs us->c5 (xs.eraseIdx i) (us.eraseIdx i)
 |_,_,_,.nil=>.nil
 |_,_,0,.cons _ t=>t
 |_,_,i+1,.cons r t=>.cons r (c5.eraseIdx i t)
theorem c5.reverse{xs:List V}{us:List af}(h:c5 xs us):c5 xs.reverse us.reverse:=by
 induction h with
 |nil=>exact .nil
 |cons r t Z=>rw[FR,FR];exact c5.append Z (.cons r .nil)
theorem Bq{Z:Type}(l:List Z):l.eraseIdx (l.length-1)=l.dropLast:=by
 induction l with
 |nil=>rfl
 |cons a r Y=>
  cases r with
  |nil=>rfl
  |cons b r=>
   have e:(a::b::r).length-1=((b::r).length-1)+1:=by
    have h1:(a::b::r).length=r.length+2:=rfl;have h2:(b::r).length=r.length+1:=rfl;omega
   rw[e,List.eraseIdx_cons_succ,Y]
   all_goals rfl
theorem xY{Z:Type}:∀(l:List Z) (i:Nat),(l.eraseIdx i).length<=l.length
 | [],_=>ay _
 |_::_,0=>gs _
 |_::r,i+1=>Nat.succ_le_succ (xY r i)
section
variable{X:Cx}{pins:List (aa×Obj)}{σ:St}{H:Hp}{s:ak}{l b:aa}{xs ys zs:List V}
theorem Inv.lset{Z its':List af}{n:Nat}{f:Array af->Array af}{t':Nat}(I:Inv X pins σ H s)(W:H l=some (.lst xs))
  (e:s.heap.get? l=some {cls:=.type "list",data:=.seq Z.toArray n}) (V:f Z.toArray=its'.toArray) (hv:c5 ys its') (Y:ys.length<=aB) :
  Inv X pins σ (upd H l (.lst ys)) {s with heap:=s.heap.update l (df f),toks:=t'}:=by
 have q:=PySem.IsL.update e f;rw[V]at q;refine I.write (x:=l) (e:=l) (by rw[W];exact trivial) (.inl rfl) (fun U u hb hu=>(fX s.heap (df f) (gm hb)).trans hu) {_,q} ?_;exact{Y,its',_,hv,q}
theorem Inv.lnew{Z:List af}{t':Nat}(I:Inv X pins σ H s)(hv:c5 ys Z)(Y:ys.length<=aB) :
  Inv X pins σ (upd H s.heap.objs.size (.lst ys)) {s with heap:=s.heap.push {cls:=.type "list",data:=.seq Z.toArray},toks:=t'}:=
 I.laid (fun _ _ q=>aI _ q) (ay _) {Y,Z,0,hv,cz _ rfl}
theorem Inv.fresh(I:Inv X pins σ H s):H s.heap.objs.size=none:=I.hok.fresh (ay _)
theorem Inv.lstM(I:Inv X pins σ H s)(Y:H l=some (.lst xs)):xs.length<=aB/\∃(Z:List af) (n:Nat),c5 xs Z/\xs.length=Z.length/\s.heap.get? l=some {cls:=.type "list",data:=.seq Z.toArray n}:=by
 obtain⟨z,Z,n,r,e⟩:=I.hok l _ Y;exact⟨z,Z,n,r,r.length,e⟩
theorem FS{n:Nat}(h:n<=aB):kW n=false:=by
 unfold kW;exact decide_eq_false (by omega)
end
section
variable{X:Cx}
inductive AppI(x:V)(vs:List V)(H:Hp)(Q:VK):Prop where
 |mk(l:aa)(xs:List V)(y:V)(hx:x=.ref l)(hv:vs=[y])(h:H l=some (.lst xs))(n:xs.length<aB)(q:Q .non (upd H l (.lst (xs++[y])))):AppI x vs H Q
def Jq:V->List V->Hp->VK->Prop:=fun x vs H Q=>AppI x vs H Q
theorem iO:MtM X "list.append" Jq:=by
 intro pins s σ H x vs v us Q I W V h;obtain⟨l,xs,y,rfl,rfl,Y,U,q⟩:=h
 cases W;obtain⟨u,rfl,ru⟩:=V.one;obtain⟨z,Z,n,r,hl,e⟩:=I.lstM Y;refine rL F.slot_list_append {_,e,rfl} F.entry_list_append (F.args_list_append_2 _ _) (PySem.list_append l Z.toArray n u (by rw[aG];omega)) {e,?_};refine{.non,_,I.lset (its':=Z++[u]) Y e (by simp) (r.append (.cons ru .nil)) ?_,rfl,q};rw[ax,Br];omega
def Jr:V->List V->Hp->VK->Prop:=fun x vs H Q=>∃l b xs zs,x=.ref l/\vs=[.ref b]/\H l=some (.lst xs)/\H b=some (.lst zs)/\xs.length+zs.length<=aB/\Q .non (upd H l (.lst (xs++zs)))
theorem El:MtM X "list.extend" Jr:=by
 intro pins s σ H x vs v us Q I U D h;obtain⟨l,b,xs,zs,rfl,rfl,V,M,g,q⟩:=h
 cases U;obtain⟨u,rfl,ru⟩:=D.one
 cases ru;obtain⟨z,Y,n,r,hl,e⟩:=I.lstM V;obtain⟨z2,Z,n2,r2,J,O⟩:=I.lstM M;have hsz:Y.toArray.size+Z.toArray.size<=aB:=by rw[aG,aG];omega
 have W:¬(!Y.toArray.isEmpty&&kW (Y.toArray.size+Z.toArray.size))=true:=by
  rw[FS hsz,Bool.and_false];exact bL
 refine rL F.slot_list_extend {_,e,rfl} F.entry_list_extend (F.args_list_extend_2 _ _)
  (AutoSeq1.list_extend_list_list_0 l Y.toArray n b Z.toArray n2 W (by rw[aG];omega) (by omega)) {e,O,?_}
 refine{.non,_,I.lset (its':=Y++Z) V e (by simp) (r.append r2) ?_,rfl,q};rw[ax];omega
def rPop:V->List V->Hp->VK->Prop:=fun x vs H Q=>∃l xs y,x=.ref l/\vs=[]/\H l=some (.lst xs)/\xs[xs.length-1]?=some y/\Q y (upd H l (.lst xs.dropLast))
theorem M7:MtM X "list.pop" rPop:=by
 intro pins s σ H x vs v us Q I U O h;obtain⟨l,xs,y,rfl,rfl,V,hy,q⟩:=h
 cases U;have Y:=O.zero;subst Y;obtain⟨z,Z,n,r,hl,e⟩:=I.lstM V;obtain⟨u,hu,ru⟩:=r.get hy;have W:Z.toArray[Z.toArray.size-1]?=some u:=by
  show Z.toArray[Z.length-1]?=some u;rw[<- AX,<- hl];exact hu
 refine rL F.slot_list_pop {_,e,rfl} F.entry_list_pop (F.args_list_pop_1 _) (MeetsSeq.list_pop_last l Z.toArray n u W (by rw[aG];omega)) {e,?_};refine{y,_,I.lset (its':=Z.dropLast) V e ?_ r.dropLast ?_,ru,q}
 ·show Z.toArray.eraseIdxIfInBounds (Z.toArray.size-1)=Z.dropLast.toArray;rw[aG,uY,Bq]
 ·rw[kP];omega
def M8:V->List V->Hp->VK->Prop:=fun x vs H Q=>∃l xs i k y,x=.ref l/\vs=[.int i]/\H l=some (.lst xs)/\-(2^63)<=i/\i<2^63/\seqIndex? i xs.length=some k/\xs[k]?=some y/\Q y (upd H l (.lst (xs.eraseIdx k)))
theorem FT:MtM X "list.pop" M8:=by
 intro pins s σ H x vs v us Q I V U h;obtain⟨l,xs,i,k,y,rfl,rfl,W,h1,h2,hk,hy,q⟩:=h
 cases V;obtain⟨u,rfl,ru⟩:=U.one;obtain⟨t,rfl⟩:=ru;obtain⟨z,Z,n,r,hl,e⟩:=I.lstM W;obtain⟨w,hw,Y⟩:=r.get hy;refine rL F.slot_list_pop {_,e,rfl} F.entry_list_pop (F.args_list_pop_2 _ _)
  (MeetsSeq.list_pop_at l Z.toArray n i t k w (fitsIndex_both h1 h2) (by rw[aG,<- hl];exact hk) (by rw[<- AX];exact hw) (by rw[aG];omega)) {e,?_}
 refine{y,_,I.lset (its':=Z.eraseIdx k) W e ?_ (r.eraseIdx k) ?_,Y,q}
 ·show Z.toArray.eraseIdxIfInBounds k=(Z.eraseIdx k).toArray;rw[uY]
 ·have:=xY xs k;omega
def rCat:R2:=fun x y H Q=>∃l b xs zs,x=.ref l/\y=.ref b/\H l=some (.lst xs)/\H b=some (.lst zs)/\xs.length+zs.length<=aB/\∀p,H p=none->Q (.ref p) (upd H p (.lst (xs++zs)))
theorem wc:OpR X (iu .Add) rCat:=by
 intro pins s σ H x y v u Q I O V h;obtain⟨l,b,xs,zs,rfl,rfl,U,J,g,q⟩:=h
 cases O
 cases V;obtain⟨z,Y,n,r,hl,e⟩:=I.lstM U;obtain⟨z2,Z,n2,r2,D,M⟩:=I.lstM J;refine PySem.P.add_list e M ?_ (by rw[aG,aG];omega);have W:Y.toArray++Z.toArray=(Y++Z).toArray:=by simp
 rw[W];exact{.ref _,_,I.lnew (t':=s.toks) (r.append r2) (by rw[ax];omega),rfl,q _ I.fresh}
end
section
variable{prog:aK}{w:bD}{A:bX}{E:af->ak->Prop}{s:ak}
end
section
variable{X:Cx}
end
end L2
namespace Att
open PySem PySem.W PySem.Calls PyProof.Rows
theorem ints_of_wellAll{P:Params}{h:cB}:∀(ns:List Int) (vs:List af),WellAll P h vs (ns.map WData.int)->dZ vs ns:=by
 intro ns
 induction ns with
 |nil=>
  intro vs w;rw[uD]at w
  cases w;exact .nil
 |cons n ns Z=>
  intro vs w;rw[cm]at w
  cases w with
  |cons a b=>
   cases a;exact .cons _ _ (Z _ b)
theorem script_of{l:OpenLaw}{n:Nat}(g:l.most=some n){P:Params}{h:cB}{args:List WData}{Z:List af}
  (Y:l.row.toRowW.claim.pre args=true) (J:WellAll P h Z args) :
  ∃a vs ns,Z=[Value.ref a]/\args=[WData.list (ns.map WData.int)]/\h.get? a=some {cls:=.type "list",data:=.seq vs.toArray}/\dZ vs ns/\ns.length<=n:=by
 have M:WShape.hasAll [] args [.list .int]=true:=(pre_splitW Y).1;have hc:l.pre.holds [] {args:=args}=true:=(pre_splitW Y).2;obtain⟨d,r,rfl,h1,h2⟩:=hasAllW_cons M;obtain rfl:=hasAllW_nil h2;obtain⟨xs,rfl,z⟩:=hasW_list h1;obtain⟨ns,rfl⟩:=items_int z;have W:ns.length<=n:=by
  unfold OpenLaw.pre at hc;have O:(WTm.not (.lt (.lit (.int (n:Int))) (.len (.arg 0)))).holds [] {args:=[.list (ns.map .int)]}=true:=by
   have O:=(holds_andW hc).1;rw[g]at O;exact O
  have U:=condW_of O (w_not (w_lt w_lit (w_len_list (w_arg rfl))));rw[av]at U;refine Nat.le_of_not_lt fun q=>?_;have D:(n:Int)<((ns.length:Nat):Int):=by omega
  first
   |(rw[decide_eq_true D]at U;exact absurd U (by decide))
   |(simp at U;omega)
 cases J with
 |cons I H=>
  cases H
  cases I with
  |list ho V=>exact{_,_,ns,rfl,rfl,ho,ints_of_wellAll ns _ V,W}
theorem post_true(l:OpenLaw)(args:List WData):l.row.toRowW.claim.post args (.bool true) args=true:=
 postW_of (r:=l.row.toRowW) (X:=(true==true))
  (show OQ [] (.bool true) .bool=true by first|rfl|decide|simp[OQ,WShape.arms,WShape.armsAll])
  (show (WTm.eq .res (.lit (.bool true))).value [] {args:=args,res:=some (.bool true),after:=args}=some (.bool (true==true)) from w_eq_bool (w_res rfl) w_lit) rfl
section
variable{prog:aK}{w:bD}{A:bX}{E:af->ak->Prop}{s:ak}{K:Frag}
end
end Att
namespace L2
open PySem PySem.Spec PyProof.Rows
theorem xZ:∀{vs:List af} {ns:List Int},dZ vs ns->c5 (ns.map V.int) vs
 |_,_,.nil=>.nil
 |_,_,.cons n t h=>.cons ⟨t,rfl⟩ (xZ h)
def Only(H:Hp):Prop:=∀b,H b=none\/∃o xs,H b=some (.frz o (.lst xs))
theorem FU{P:aK}{w:bD}{K:ae}{mg mb:Str->Option af}{CX:CXT}{k:Nat}{fa a:aa}{fd:bU}{x:Str}{sp:Sp}{Z:ak}{vs:List af}{ns:List Int}
  (KX:K.In Z.heap) (M:Z.heap.Ns bA mg) (hb:Z.heap.Ns Mr mb) (ci:∀x:Str,x≠"__name__"->mb x=fg x) (D:Z.heap.NoLimit) (hg:Z.gens=#[])
  (ha:Z.heap.get? a=some {cls:=.type "list",data:=.seq vs.toArray}) (hi:dZ vs ns) (hl:ns.length<=aB) (hr:cX k xt)
  (F:∀base:cB,K.In base->base.Ns bA mg->bC P w K mg base CX k fa fd [x] sp) (O:∀(s:ak) (u:af),uz s fd {[u],[]} [(x,u)])
  (cs:∀H:Hp,Only H->SqL K H a (ns.map V.int)->sp [.ref a] H (fun v _=>v=.bl true) fun _ _ _=>False)
  (cr:∀H e s',CX [] H Z (fun _ _ _=>False) e s'->False) :
  pS (aZ P w) xt (.call (.ref fa) {[.ref a],[]}) (fun r s'=>r=.ok (.ret (.bool true))/\OldK Z.heap s'.heap/\s'.os=Z.os/\pP s'.gens) Z:=by
 have rv:=xZ hi;have I:=hi.length
 -- from an abstract heap in which nothing but the script may be tracked
 have U:∀H:Hp,Only H->SqL K H a (ns.map V.int)->HOk P w H Z.heap->(∀b,H b≠none->b=a)->(H a≠none->K.lookup a=none) ->
   pS (aZ P w) xt (.call (.ref fa) {[.ref a],[]}) (fun r s'=>r=.ok (.ret (.bool true))/\OldK Z.heap s'.heap/\s'.os=Z.os/\pP s'.gens) Z:=by
  intro H hO hS hok hA hK;have Y:∀{b:aa} {o:Obj},Z.heap.get? b=some o->H b=none->(yv Z.heap H).get? b=some o:=fun e n=>Fk e n;have cp:∀{b:aa} {o:Obj} {es:Array DictEntry} {g:Nat},Z.heap.get? b=some o->o.data=.dict es g->H b=none:=fun {b o es g} e d=>by
   cases q:H b with
   |none=>rfl
   |some u=>
    have e':b=a:=hA b (by rw[q];simp);subst e';rw[ha]at e;cases e;have d':Data.seq vs.toArray _=Data.dict es g:=d
    cases d'
  have W:∀{b:aa} {m:Str->Option af},Z.heap.Ns b m->(yv Z.heap H).Ns b m:=fun {b m} ⟨o,es,g,e,d,r⟩=>{o,es,g,Y e (cp e d),d,r};have J:K.In (yv Z.heap H):=fun b o e=>Y (KX b o e) (by
   cases q:H b with
   |none=>rfl
   |some u=>
    have e':b=a:=hA b (by rw[q];simp);subst e';rw[hK (by rw[q];simp)]at e;cases e)
  have hM:Mod K mg (yv Z.heap H):={J,W M,{mb,W hb,ci},let ⟨mc,h1,h2⟩:=D;{mc,W h1,h2}};have e0:yH P w K mg (yv Z.heap H) xt [] Z H:={rfl,hM,fun b o e=>Ja e,Bb (D0 _ _),trivial,fun b hb=>absurd (show b∈([]:List aa) from hb) (by simp),hok,.of_eq hg};refine nG ((F _ J (W M)).run xt [] Z H {[.ref a],[]} [.ref a] [.ref a] _ _ hr e0 (O Z (.ref a)) (.cons rfl .nil) (cs H hO hS)) fun r s' h=>?_
  cases r with
  |error e=>exact (cr H e s' h).elim
  |ok fl=>
   cases fl with
   |next=>exact cV h
   |brk=>exact cV h
   |cont=>exact cV h
   |ret u=>
    obtain⟨v,H',os,bare,un,cx,r',q⟩:=h;have q':v=.bl true:=q;subst q';obtain rfl:u=Value.bool true:=r';refine{rfl,OldK.of_keep fun b o e=>?_,os,bare}
    cases q:H b with
    |none=>exact un.keep b o e q (by intro z;exact absurd (show b∈([]:List aa) from z) (by simp)) (by simp)
    |some u=>
     rcases hO b with z|⟨ob,xs,z⟩
     ·rw[q]at z;cases z
     ·have z2:=un.frzs b ob _ z;obtain⟨e1,_⟩:=hok b _ z;obtain⟨e2,_⟩:=cx b _ z2;rw[e]at e1;cases e1;exact e2
 cases hk:K.lookup a with
 |some o=>
  -- the script is one of the module's own objects
  have e:=KX a o hk;rw[ha]at e
  cases e;refine U (fun _=>none) (fun _=>.inl rfl) (.inr {_,vs.toArray,_,hk,rfl,rfl,rfl,by rw[aG,I];exact hl,by simpa using rv}) (fun b u z=>by have z':(none:Option HO)=some u:=z;cases z') (fun b z=>absurd rfl z) fun z=>absurd rfl z
 |none=>
  refine U (fun b=>if b=a then some (.frz {cls:=.type "list",data:=.seq vs.toArray} (.lst (ns.map V.int))) else none) (fun b=>?_) (.inl (.inr {{cls:=.type "list",data:=.seq vs.toArray},if_pos rfl})) (fun b u z=>?_) (fun b z=>?_) fun _=>hk
  ·by_cases hb:b=a
   ·exact .inr {_,_,if_pos hb}
   ·exact .inl (if_neg hb)
  ·by_cases hb:b=a
   ·have z':=(if_pos hb).symm.trans z
    cases z';subst hb;exact{ha,by rw[av];exact hl,vs,_,rv,ha}
   ·have z':=(if_neg hb).symm.trans z
    cases z'
  ·by_cases hb:b=a
   ·exact hb
   ·exact absurd (if_neg hb) z
def fq(s:c9)(j:Nat):c9:=match s with
 |.ClassDef _ _ _ Z _ _ _ _ _ _ _=>Z.getD j (.Pass {0,0,0,0})
 |_=>.Pass {0,0,0,0}
def kS(s:c9):Arguments:=match s with
 |.FunctionDef _ a _ _ _ _ _ _ _ _=>a
 |_=>{posonlyargs:=[],args:=[],vararg:=none,kwonlyargs:=[],kw_defaults:=[],kwarg:=none,defaults:=[]}
def jh(s:c9):List c9:=match s with
 |.FunctionDef _ _ b _ _ _ _ _ _ _=>b
 |_=>[]
def aN(s:c9):lZ:=match s with
 |.FunctionDef _ _ _ _ _ _ sc _ _ _=>sc
 |_=>{kind:=.function,names:=[],isGenerator:=false,isCoroutine:=false}
abbrev CX0:CXT:=fun _ _ _ _ _ _=>False
abbrev E0:XK:=fun _ _ _=>False
theorem bh{X:Cx}:lC CX0 X E0:=fun _ _ _ _ _ _ _ h=>h.elim
structure Fun(K:ae)(x qual:Str)(st:c9)(f:aa)(fd:bU):Prop where
 ex:∃(oc:af) (od:Option aa) (kV doc pm:af) (an:Option aa) (cdv ct:af) (osl:Array (Option af)),
  fd=fj x qual (kS st) (jh st) (aN st) .none kV doc pm an cdv ct/\K.lookup f=some {oc,od,.func fd,osl}/\jC K cdv qual=true
 kp:gL K (.ref f)=true
section
variable{P:aK}{w:bD}{K:ae}{mg:Str->Option af}{base:cB}
theorem Fun.ok{x Z:Str}{st:c9}{f:aa}{fd:bU}{N ps:List Str}{k:Nat}{sp:Sp}(F:Fun K x Z st f fd)(S:bO N ps (aN st))(len:∀vs H Q E,sp vs H Q E->vs.length=ps.length)
  (W:∀(Y:af) (A:bX) (outer:List Env) (s:ak) (H:Hp) (vs:List V) (Q:VK) (E:XK),cX k (A.deeper (tT Z (aN st) s.heap.objs.size f Y))->sp vs H Q E ->
   ∃t,PSs (tS CX0 P w K mg base N Z (aN st) f Y A outer s H E).nox (jh st) t/\t {nx:=fun _ H'=>Q .non H',rt:=Q} (start N vs) H):bC P w K mg base CX0 (k+1) f fd ps sp:=by
 obtain⟨z,od,kV,J,D,g,Y,ct,I,rfl,M,U⟩:=F.ex;refine Ld M U S len fun A outer s H vs Q E hr O=>?_;obtain⟨t,h,q⟩:=W Y A outer s H vs Q E hr O;exact⟨t,h.nox,q⟩
theorem Fun.binds{x Z:Str}{st:c9}{f:aa}{fd:bU}{ps:List Str}(F:Fun K x Z st f fd)
  (h:∀(kV W U:af) (V:Option aa) (Y ct:af) (us:List af),us.length=ps.length->Bf (fj x Z (kS st) (jh st) (aN st) .none kV W U V Y ct) {us,[]}=pure (ps.zip us)):Binds K fd ps []:=by
 obtain⟨I,od,kV,W,U,V,Y,ct,M,rfl,J,O⟩:=F.ex;exact .all (h kV W U V Y ct)
theorem FV{x Z:Str}{st:c9}{f:aa}{M:af}{od U:Option aa}{V:Array (Option af)}{kV W O Y ct:af}(l:K.lookup f=some {M,od,.func (fj x Z (kS st) (jh st) (aN st) .none kV W O U Y ct),V})
  (c:jC K Y Z=true) (k:gL K (.ref f)=true):Fun K x Z st f (fj x Z (kS st) (jh st) (aN st) .none kV W O U Y ct):={⟨M,od,kV,W,O,U,Y,ct,V,rfl,l,c⟩,k}
end
theorem mC{A:bX}{k:Nat}(hr:cX k A):A.units+1<dY:=jE (Fe (by decide:1<=64) _) hr.units
section
variable{X:Cx}
theorem pv(i:Nat){x:Str}{pos:Pos}(Y:X.N[i]?=some x:=by rfl)(hv:Vis X.env.scope x:=by first|exact Or.inl rfl|exact Or.inr (Or.inl rfl)|exact Or.inr (Or.inr rfl))(hd:(x==("__debug__":Str))=false:=by decide)
  (Z:(x==("__classdict__":Str))=false:=by decide):PE X (.Name x pos) (vP i):=Mu Y hv hd Z
end
theorem gu{A B:Prop}(h:B):if false=true then A else B:=by
 rw[if_neg bL];exact h
theorem iA{A B:Prop}(h:A):if true=true then A else B:=by
 rw[if_pos rfl];exact h
theorem gH{c A B:Prop}[Decidable c](h1:c->A)(h2:¬c->B):if c then A else B:=by
 by_cases h:c
 ·rw[if_pos h];exact h1 h
 ·rw[if_neg h];exact h2 h
def aY(H H':Hp):Prop:=∀b o,H b=some o->H' b=some o
theorem aY.refl(H:Hp):aY H H:=fun _ _ h=>h
theorem aY.trans{H H1 H2:Hp}(a:aY H H1)(b:aY H1 H2):aY H H2:=fun c o h=>b c o (a c o h)
theorem aY.free{H H':Hp}(e:aY H H'){l:aa}(h:H' l=Option.none):H l=Option.none:=by
 cases q:H l with
 |none=>rfl
 |some o=>
  rw[e l o q]at h
  cases h
section
variable{κ:Type}[DecidableEq κ]
def jN(kvs:List (κ×V))(k:κ):Option V:=(kvs.find? fun Z=>decide (Z.1=k)).map (·.2)
def iY(kvs:List (κ×V))(k:κ)(v:V):List (κ×V):=
 if (kvs.any fun Z=>decide (Z.1=k))=true then kvs.map (fun Z=>if Z.1=k then (Z.1,v) else Z) else kvs++[(k,v)]
theorem p6{p:κ×V}{r:List (κ×V)}{k:κ}(e:p.1=k):jN (p::r) k=some p.2:=by simp[jN,jx,e]
theorem p7{p:κ×V}{r:List (κ×V)}{k:κ}(e:¬p.1=k):jN (p::r) k=jN r k:=by simp[jN,jx,e]
theorem ko(k:κ):∀kvs:List (κ×V),(kvs.any fun Z=>decide (Z.1=k))=(jN kvs k).isSome
 | []=>rfl
 |p::r=>by
  rw[zO]
  by_cases e:p.1=k
  ·simp only[p6 e,decide_eq_true e,Bool.true_or,Option.isSome_some]
  ·rw[p7 e,decide_eq_false e,Bool.false_or];exact ko k r
theorem mE(kvs:List (κ×V))(k:κ)(v:V):(iY kvs k v).length<=kvs.length+1:=by
 unfold iY
 split
 ·rw[av];omega
 ·rw[ax,aR,cw];omega
theorem z5{kvs:List (κ×V)}{k:κ}(v:V)(h:jN kvs k=none):iY kvs k v=kvs++[(k,v)]:=by
 unfold iY;rw[ko,h];exact if_neg (by decide)
theorem qW.isSome_eq{o:Option V}{u:Option af}(r:qW o u):o.isSome=u.isSome:=by
 cases o with
 |none=>cases u with
  |none=>rfl
  |some _=>exact (show False from r).elim
 |some _=>cases u with
  |none=>exact (show False from r).elim
  |some _=>rfl
theorem KV.val{kvs:List (κ×V)}{vs:List (κ×af)}(r:KV kvs vs)(k:κ):qW (jN kvs k) (pU vs k):=by
 unfold KV at r
 induction r with
 |nil=>exact True.intro
 |@cons p q ps qs h t Z=>
  obtain⟨h1,h2⟩:=h
  by_cases e:p.1=k
  ·have e':q.1=k:=h1.symm.trans e;have b:pU (q::qs) k=some q.2:=by simp[pU,jx,e']
   rw[p6 e,b];exact h2
  ·have e':¬q.1=k:=fun z=>e (h1.trans z);have b:pU (q::qs) k=pU qs k:=by simp[pU,jx,e']
   rw[p7 e,b];exact Z
theorem KV.any{kvs:List (κ×V)}{vs:List (κ×af)}(r:KV kvs vs)(k:κ):(kvs.any fun Z=>decide (Z.1=k))=vs.any fun Z=>decide (Z.1=k):=by
 unfold KV at r
 induction r with
 |nil=>rfl
 |cons h t Y=>rw[zO,zO,Y,h.1]
theorem KV.repl{kvs:List (κ×V)}{vs:List (κ×af)}(r:KV kvs vs)(k:κ){y:V}{u:af}(Y:RelV y u) :
  KV (kvs.map fun Z=>if Z.1=k then (Z.1,y) else Z) (vs.map fun Z=>if Z.1=k then (Z.1,u) else Z):=by
 unfold KV at r |-
 induction r with
 |nil=>exact .nil
 |@cons p q ps qs h t W=>
  rw[cm,cm];refine .cons ?_ W;obtain⟨h1,h2⟩:=h
  by_cases e:p.1=k
  ·rw[if_pos e,if_pos (h1.symm.trans e)];exact⟨h1,Y⟩
  ·rw[if_neg e,if_neg (fun z=>e (h1.trans z))];exact⟨h1,h2⟩
theorem KV.put{kvs:List (κ×V)}{vs:List (κ×af)}(r:KV kvs vs)(k:κ){y:V}{u:af}(Z:RelV y u):KV (iY kvs k y) (wg vs k u):=by
 unfold iY wg;rw[r.any k]
 by_cases e:(vs.any fun Y=>decide (Y.1=k))=true
 ·rw[if_pos e,if_pos e];exact r.repl k Z
 ·rw[if_neg e,if_neg e];exact eN r ⟨rfl,Z⟩
theorem KV.length{kvs:List (κ×V)}{vs:List (κ×af)}(r:KV kvs vs):kvs.length=vs.length:=aO r
end
theorem wj{P:aK}{w:bD}{k:Key}{u:af}(r:RelV (kV k) u):(gb P w).is k u=true:=by
 cases k with
 |inl i=>obtain⟨t,e⟩:=(show ∃t,u=Value.int i t from r);subst e;exact zT P w i t
 |inr x=>obtain⟨t,e⟩:=(show ∃t,u=Value.str x t from r);subst e;exact zU P w x t
theorem x5{P:aK}{w:bD}:∀{ks:List Key} {us:List af},c5 (ks.map kV) us->ItemsAre (gb P w) ks us
 | [],_,r=>by rw[uD]at r;cases r;exact .nil
 |k::ks,_,r=>by
  rw[cm]at r
  cases r with
  |cons h t=>exact .cons (wj h) (x5 t)
abbrev KT(H:Hp):List (List Key×V)->List (List Key×aa×af)->Prop:=aJ fun p q=>p.1=q.1/\H q.2.1=some (.tup (p.1.map kV))/\RelV p.2 q.2.2
theorem KT.val{H:Hp}{kvs:List (List Key×V)}{xs:List (List Key×aa×af)}(r:KT H kvs xs)(k:List Key):qW (jN kvs k) ((Bs xs k).map (·.2)):=by
 induction r with
 |nil=>exact True.intro
 |@cons p q ps qs h t Z=>
  obtain⟨h1,_,h2⟩:=h
  by_cases e:p.1=k
  ·have e':q.1=k:=h1.symm.trans e;have b:Bs (q::qs) k=some q.2:=by simp[Bs,jx,e']
   rw[p6 e,b];exact h2
  ·have e':¬q.1=k:=fun z=>e (h1.trans z);have b:Bs (q::qs) k=Bs qs k:=by simp[Bs,jx,e']
   rw[p7 e,b];exact Z
theorem KT.repl{H:Hp}{kvs:List (List Key×V)}{xs:List (List Key×aa×af)}(r:KT H kvs xs)(k:List Key){y:V}{u:af}(Y:RelV y u) :
  KT H (kvs.map fun Z=>if Z.1=k then (Z.1,y) else Z) (xs.map (putAt k u)):=by
 induction r with
 |nil=>exact .nil
 |@cons p q ps qs h t W=>
  rw[cm,cm];refine .cons ?_ W;obtain⟨h1,h2,U⟩:=h;unfold putAt
  by_cases e:p.1=k
  ·rw[if_pos e,if_pos (h1.symm.trans e)];exact⟨h1,h2,Y⟩
  ·rw[if_neg e,if_neg (fun z=>e (h1.trans z))];exact⟨h1,h2,U⟩
theorem KT.put{H:Hp}{kvs:List (List Key×V)}{xs:List (List Key×aa×af)}(r:KT H kvs xs)(k:List Key){b:aa}{y:V}{u:af}(hb:H b=some (.tup (k.map kV)))(Z:RelV y u) :
  KT H (iY kvs k y) (storedH xs k b u):=by
 have e:(kvs.any fun Y=>decide (Y.1=k))=(Bs xs k).isSome:=by
  rw[ko,(r.val k).isSome_eq,m5]
 unfold iY storedH;rw[e]
 by_cases q:(Bs xs k).isSome=true
 ·rw[if_pos q,if_pos q];exact r.repl k Z
 ·rw[if_neg q,if_neg q];exact eN r ⟨rfl,hb,Z⟩
theorem KT.keeps{H H':Hp}{kvs:List (List Key×V)}{xs:List (List Key×aa×af)}(r:KT H kvs xs)(ht:∀b ys,H b=some (.tup ys)->H' b=some (.tup ys)):KT H' kvs xs:=
 Paired.mapP r fun _ _ z=>{z.1,ht _ _ z.2.1,z.2.2}
section
variable{P:aK}{w:bD}{H:Hp}{h:cB}{a:aa}
theorem Le{u:HO}(ok:HOk P w H h)(e:Rd H a u):eO P w H h a u:=e.ok ok
theorem z7{kvs:List (Key×V)}(ok:HOk P w H h)(e:Rd H a (.dK kvs)):kvs.length<=aB/\(a==gc)=false/\∃vs,KV kvs vs/\h.DictOf (gb P w) a vs:=
 show eO P w H h a (.dK kvs) from Le ok e
theorem Lg{kvs:List (Key×V)}(ok:HOk P w H h)(e:H a=some (.dK kvs)):kvs.length<=aB/\(a==gc)=false/\∃vs,KV kvs vs/\h.DictOf (gb P w) a vs:=z7 ok (.inl e)
theorem wx{ks:List Key}(ok:HOk P w H h)(e:H a=some (.tup (ks.map kV))):(yu (gb P w)).is h ks a:=by
 obtain⟨_,Z,r,o,h1,h2,n,Y⟩:=(show eO P w H h a (.tup (ks.map kV)) from ok a _ e);exact{o,Z.toArray,n,h1,h2,Y,by simpa using x5 r}
theorem z8{kvs:List (List Key×V)}(ok:HOk P w H h)(e:Rd H a (.dT kvs)):kvs.length<=aB/\(a==gc)=false /\
  ∃xs,KT H kvs xs/\h.DictOfH (yu (gb P w)) a xs:=by
 obtain⟨z,y,xs,r,o,es,Y,h1,h2,W,O,Z⟩:=(show eO P w H h a (.dT kvs) from Le ok e);refine{z,y,xs,r,o,es,Y,h1,h2,W,O,fun x hx=>?_,Z};have all:∀{l:List (List Key×V)} {m:List (List Key×aa×af)},KT H l m->∀x∈m,(yu (gb P w)).is h x.1 x.2.1:=by
  intro l m q
  induction q with
  |nil=>intro x hx;exact nomatch hx
  |@cons p q ps qs hq t U=>
   intro x hx
   rcases ar.mp hx with e|hx
   ·subst e;exact wx ok (by rw[<- hq.1];exact hq.2.1)
   ·exact U x hx
 exact all r x hx
theorem dt_of{kvs:List (List Key×V)}(ok:HOk P w H h)(e:H a=some (.dT kvs)):kvs.length<=aB/\(a==gc)=false /\
  ∃xs,KT H kvs xs/\h.DictOfH (yu (gb P w)) a xs:=z8 ok (.inl e)
end
def pI(H:Hp)(a:aa)(y:V)(r:Option V):Prop:=
 (∃kvs k,Rd H a (.dK kvs)/\y=kV k/\r=jN kvs k)\/∃kvs k b,Rd H a (.dT kvs)/\y=.ref b/\H b=some (.tup (k.map kV))/\r=jN kvs k
def tV(H:Hp)(a:aa)(y v:V)(H':Hp):Prop:=
 (∃kvs k,H a=some (.dK kvs)/\y=kV k/\kvs.length<aB/\H'=upd H a (.dK (iY kvs k v))) \/
 ∃kvs k b,H a=some (.dT kvs)/\y=.ref b/\H b=some (.tup (k.map kV))/\kvs.length<aB/\H'=upd H a (.dT (iY kvs k v))
theorem pI.k{H:Hp}{a:aa}{kvs:List (Key×V)}{k:Key}(e:H a=some (.dK kvs)):pI H a (kV k) (jN kvs k):=.inl {kvs,k,.inl e,rfl,rfl}
theorem tV.k{H:Hp}{a:aa}{kvs:List (Key×V)}{k:Key}{v:V}(e:H a=some (.dK kvs))(hl:kvs.length<aB):tV H a (kV k) v (upd H a (.dK (iY kvs k v))):=.inl ⟨kvs,k,e,rfl,hl,rfl⟩
section
variable{X:Cx}{pins:List (aa×Obj)}{σ:St}{H:Hp}{s:ak}{a:aa}{y v:V}{u r:af}{o:Option V}{A:bX}{E:af->ak->Prop}
theorem Inv.big(I:Inv X pins σ H s):gc<s.heap.objs.size:=by
 have h:bA<s.heap.objs.size:=(I.mod.glob.keeps I.bk).lt;exact p8 (by decide) h
theorem Em{Q:af->ak->Prop}(hu:A.units+1<dY)(I:Inv X pins σ H s)(g:pI H a y (some v))(O:RelV y u)(h:∀W s',Inv X pins σ H s'->RelV v W->Q W s') :
  aW (aZ X.prog X.w) A (uC (.ref a) u) Q E s:=by
 rcases g with⟨kvs,k,e,U,l⟩|⟨kvs,k,b,e,U,M,l⟩
 ·subst U;obtain⟨z,hd,vs,Y,dd⟩:=z7 I.hok e;obtain⟨W,hw,Z⟩:=qW.some_of (v:=v) (o:=pU vs k) (by rw[l];exact Y.val k);exact wpAny_getItem_of (wj O) dd.mapOf hw (h W _ (I.tok _) Z)
 ·subst U
  cases (show u=Value.ref b from O);obtain⟨z,hd,xs,Y,dd⟩:=z8 I.hok e;obtain⟨W,hw,Z⟩:=qW.some_of (v:=v) (o:=(Bs xs k).map (·.2)) (by rw[l];exact Y.val k);obtain⟨p,hp,V⟩:=jL.mp hw;refine wpAny_getItem_heap (oM hu) (wx I.hok M) dd hp ?_;rw[V];exact h W _ (I.tok _) Z
theorem d_in{Q:af->ak->Prop}(hu:A.units+1<dY)(I:Inv X pins σ H s)(g:pI H a y o)(W:RelV y u)(h:∀s',Inv X pins σ H s'->Q (.bool o.isSome) s') :
  aW (aZ X.prog X.w) A (cN .In u (.ref a)) Q E s:=by
 rcases g with⟨kvs,k,e,Y,l⟩|⟨kvs,k,b,e,Y,V,l⟩
 ·subst Y;obtain⟨z,hd,vs,Z,dd⟩:=z7 I.hok e;refine wpAny_in_of (wj W) hd dd.mapOf ?_;rw[<- (Z.val k).isSome_eq,<- l];exact h _ (I.tok _)
 ·subst Y
  cases (show u=Value.ref b from W);obtain⟨z,hd,xs,Z,dd⟩:=z8 I.hok e;refine wpAny_in_heap (oM hu) (wx I.hok V) hd dd ?_;have q:=(Z.val k).isSome_eq;rw[m5]at q;rw[<- q,<- l];exact h _ (I.tok _)
theorem Js{Q:af->ak->Prop}(hu:A.units+1<dY)(I:Inv X pins σ H s)(g:pI H a y o)(W:RelV y u)(h:∀s',Inv X pins σ H s'->Q (.bool (!o.isSome)) s') :
  aW (aZ X.prog X.w) A (cN .NotIn u (.ref a)) Q E s:=by
 rcases g with⟨kvs,k,e,Y,l⟩|⟨kvs,k,b,e,Y,V,l⟩
 ·subst Y;obtain⟨z,hd,vs,Z,dd⟩:=z7 I.hok e;refine wpAny_notIn_of (wj W) hd dd.mapOf ?_;rw[<- (Z.val k).isSome_eq,<- l];exact h _ (I.tok _)
 ·subst Y
  cases (show u=Value.ref b from W);obtain⟨z,hd,xs,Z,dd⟩:=z8 I.hok e;refine wpAny_notIn_heap (oM hu) (wx I.hok V) hd dd ?_;have q:=(Z.val k).isSome_eq;rw[m5]at q;rw[<- q,<- l];exact h _ (I.tok _)
theorem yO{h':cB}{t':Nat}{ob:HO}(I:Inv X pins σ H s)(Y:Mut (H a))(hs:uv a s.heap h')(Z:∃q,h'.get? a=some q)(new:eO X.prog X.w (upd H a ob) h' a ob) :
  Inv X pins σ (upd H a ob) {s with heap:=h',toks:=t'}:=
 I.write (x:=a) (e:=a) Y (.inl rfl) (fun b q hb z=>(hs.2 b hb).trans z) Z new
theorem yP{P:aK}{w:bD}{H':Hp}{h':cB}{kvs:List (Key×V)}{vs:List (Key×af)}(z:kvs.length<=aB)(hd:(a==gc)=false)(Z:KV kvs vs)(dd:h'.DictOf (gb P w) a vs) :
  eO P w H' h' a (.dK kvs):=⟨z,hd,vs,Z,dd⟩
theorem En{H':Hp}{Q:Unit->ak->Prop}(hu:A.units+1<dY)(I:Inv X pins σ H s)(g:tV H a y v H')(M:RelV y u)(D:RelV v r)(h:∀s',Inv X pins σ H' s'->Q () s') :
  aW (aZ X.prog X.w) A (setItem (.ref a) u r) Q E s:=by
 rcases g with⟨kvs,k,e,U,l,V⟩|⟨kvs,k,b,e,U,O,l,V⟩
 ·subst U V;obtain⟨z,hd,vs,Z,dd⟩:=Lg I.hok e;have W:vs.length<=aB:=by rw[<- Z.length];exact z
  have hl:(iY kvs k v).length<=aB:=by have:=mE kvs k v;omega
  refine wpAny_setItem_pairs (hsz:=W) (wj M) dd fun h' Y hs=>h _ ?_;have he:∃q,h'.get? a=some q:=let ⟨q,_,_,hq,_⟩:=Y;⟨q,hq⟩;exact yO I (by rw[e];exact True.intro) hs he (yP hl hd (Z.put k D) Y)
 ·subst U V
  cases (show u=Value.ref b from M);obtain⟨z,hd,xs,Z,dd⟩:=dt_of I.hok e;have W:xs.length<=aB:=by rw[<- aO Z];exact z
  have hl:(iY kvs k v).length<=aB:=by have:=mE kvs k v;omega
  refine wpAny_setItem_heap (hsz:=W) (oM hu) (wx I.hok O) dd fun h' Y hs=>h _ ?_;obtain⟨q,es,ep,hq,h2,h3,h4,_,h5⟩:=Y;refine yO I (by rw[e];exact True.intro) hs ⟨q,hq⟩ {hl,hd,_,(Z.put k O D).keeps fun c ys J=>?_,q,es,ep,hq,h2,h3,h4,h5};rw[aL (o6 J e (fun z=>nomatch z))];exact J
end
section
variable{X:Cx}{pins:List (aa×Obj)}{σ:St}{H:Hp}{s:ak}{a:aa}{kvs:List (Key×V)}{k:Key}{u:af}{A:bX}{E:af->ak->Prop}
end
def NoSl(i:cS):Prop:=∀Z Y,zN i false Z Y=operate [Z,Y] (uC Z Y)
theorem Jt{prog:aK}{w:bD}{A:bX}{E:af->ak->Prop}{s:ak}{env:Env}{value Z:cS}{pos:Pos}{T id:String}{Q:af->ak->Prop}
  (hl:MX (.type T) "__getitem__"=pure (some (.builtin id))) (hs:NoSl Z)
  (h:aW (aZ prog w) A (gf value env) (fun o V=>aW (aZ prog w) A (gf Z env) (fun i Y=>Y.TypeIs o T/\aW (aZ prog w) A (uC o i) Q E Y) E V) E s) :
  aW (aZ prog w) A (gf (.Subscript value Z pos) env) Q E s:=by
 refine MY (eV h (fun o V U=>eV U (fun i Y W=>?_) fun _ _ x=>x) fun _ _ x=>x);obtain⟨O,W⟩:=W;unfold Ek;refine ao ?_;rw[getitemInPython_of_ne O.not_modules];refine ao (wpAny_specialOf O hl ?_);have fin:aW (aZ prog w) A (zN Z false o i) (fun r s₃=>aW (aZ prog w) A (letTemporaryGo value o r >>= fun _=>pure r) Q E s₃) E Y:=by
  rw[hs o i];exact wpAny_operating (eV W (fun r s₃ h₃=>ao (wpAny_letTemporaryGo (aU h₃))) fun _ _ x=>x)
 first
  |exact aU (ao fin)
  |exact ao (aU (ao fin))
  |exact ao fin
theorem z9{X:Cx}{pins:List (aa×Obj)}{σ:St}{H:Hp}{s:ak}{a:aa}{y:V}{o:Option V}(I:Inv X pins σ H s)(g:pI H a y o):s.TypeIs (.ref a) "dict":=by
 rcases g with⟨kvs,k,e,_,_⟩|⟨kvs,k,b,e,_,_,_⟩
 ·obtain⟨_,_,vs,_,dd⟩:=z7 I.hok e;exact dd.typeIs
 ·obtain⟨_,_,xs,_,dd⟩:=z8 I.hok e;exact dd.typeIs
inductive DGI(x y:V)(H:Hp)(Q:VK):Prop where
 |mk(a:aa)(v:V)(hx:x=.ref a)(d:pI H a y (some v))(q:Q v H):DGI x y H Q
def tDGet(td ty:TE):TE:=fun σ H Q=>td σ H fun x H1=>ty σ H1 fun y H2=>DGI x y H2 Q
def tDIn(ty td:TE):TE:=fun σ H Q=>ty σ H fun y H1=>td σ H1 fun x H2=>∃a o,x=.ref a/\pI H2 a y o/\Q (.bl o.isSome) H2
def Ju(ty td:TE):TE:=fun σ H Q=>ty σ H fun y H1=>td σ H1 fun x H2=>∃a o,x=.ref a/\pI H2 a y o/\Q (.bl (!o.isSome)) H2
def sDPut(td ty tv:TE):TS:=fun D σ H=>tv σ H fun v H1=>td σ H1 fun x H2=>ty σ H2 fun y Y=>∃a Z,x=.ref a/\tV Y a y v Z/\D.nx σ Z
section
variable{X:Cx}{o i e value:cS}{pos pos' tpos:Pos}{td ty tv:TE}
theorem qO(hu:X.A.units+1<dY)(ho:PE X o td)(hi:PE X i ty)(hs:NoSl i):PE X (.Subscript o i pos) (tDGet td ty):=by
 intro pins s σ H Q I h;refine Jt PySem.F.slot_dict_getitem.lookup hs (thn (ho pins s σ H _ I h) fun u W ⟨x,H1,O,U,D⟩=>thn (hi pins W σ H1 _ O D) fun iv s2 ⟨y,H2,Y,V,a,v,ex,g,M⟩=>?_);subst ex;obtain rfl:u=Value.ref a:=U;exact{z9 Y g,Em hu Y g V fun z s3 J Z=>⟨v,H2,J,Z,M⟩}
theorem FW(hu:X.A.units+1<dY)(hi:PE X i ty)(ho:PE X o td):PC X .In i o (tDIn ty td):=by
 intro pins s σ H Q I h;refine thn (hi pins s σ H _ I h) fun iv Z ⟨y,H1,U,Y,D⟩=>thn (ho pins Z σ H1 _ U D) fun u s2 ⟨x,H2,M,V,a,W,ex,g,O⟩=>?_;subst ex;obtain rfl:u=Value.ref a:=V;exact d_in hu M g Y fun z J=>{.bl W.isSome,H2,J,rfl,O}
theorem Eo(hu:X.A.units+1<dY)(hi:PE X i ty)(ho:PE X o td):PC X .NotIn i o (Ju ty td):=by
 intro pins s σ H Q I h;refine thn (hi pins s σ H _ I h) fun iv Z ⟨y,H1,U,Y,D⟩=>thn (ho pins Z σ H1 _ U D) fun u s2 ⟨x,H2,M,V,a,W,ex,g,O⟩=>?_;subst ex;obtain rfl:u=Value.ref a:=V;exact Js hu M g Y fun z J=>{.bl (!W.isSome),H2,J,rfl,O}
theorem mH(hu:X.A.units+1<dY)(ho:PE X o td)(hi:PE X i ty)(hv:PE X value tv)(hs:uw value (some (.Subscript o i pos')) pos.line X.env=pure false) :
  PS X (.Assign [.Subscript o i pos'] value pos) (sDPut td ty tv):=by
 intro pins s σ H D I h;refine wpAny_Assign_Subscript (thn (hv pins s σ H _ I h) fun r W ⟨v,H1,V,rv,J⟩=>thn (ho pins W σ H1 _ V J) fun u s2 ⟨x,H2,I2,U,O⟩=>thn (hi pins s2 σ H2 _ I2 O) fun iv s3 ⟨y,H3,M,Y,a,H4,ex,g,Z⟩=>?_) hs;subst ex;obtain rfl:u=Value.ref a:=U;exact En hu M g Y rv fun s4 z=>⟨σ,H4,z,Z⟩
end
theorem Aa{P:aK}{w:bD}{H:Hp}(h:cB)(hb:gc<h.objs.size):eO P w H (h.push {cls:=.type "dict",data:=.dict #[]}) h.objs.size (.dK []):=
 {bV _,beq_eq_false_iff_ne.mpr (gm (aQ hb)),[],.nil,AY h}
def Na:TE:=fun _ H Q=>∀p,H p=none->Q (.ref p) (upd H p (.dK []))
section
variable{X:Cx}{pos:Pos}
theorem sJ:PE X (.Dict [] [] pos) Na:=fun pins s σ H Q I h=>
 wpAny_Dict_empty {.ref s.heap.objs.size,_,I.laid (a:=s.heap.objs.size) (o:=.dK []) (t':=s.toks) (fun _ _ q=>aI _ q) (ay _) (Aa s.heap I.big),rfl,h _ (I.hok.fresh (ay _))}
end
def Bt:List (TE×TE)->St->Hp->(List (V×V)->Hp->Prop)->Prop
 | [],_,H,Q=>Q [] H
 |(tk,tv)::r,σ,H,Q=>tk σ H fun x H1=>tv σ H1 fun y H2=>Bt r σ H2 fun ps Z=>Q ((x,y)::ps) Z
abbrev VV:List (V×V)->List (af×af)->Prop:=aJ fun p q=>RelV p.1 q.1/\RelV p.2 q.2
def PPs(X:Cx)(pos:Pos)(keys:List (Option cS))(Z:List cS)(Y:List (TE×TE)):Prop:=
 ∀(pins:List (aa×Obj)) (s:ak) (σ:St) (H:Hp) (Q:List (V×V)->Hp->Prop),Inv X pins σ H s->Bt Y σ H Q ->
  aW (aZ X.prog X.w) X.A (evalPairs (pairTrees keys Z X.env pos)) (fun vs s'=>∃ps H',Inv X pins σ H' s'/\VV ps vs/\Q ps H') X.xe s
theorem Co{X:Cx}{pos:Pos}:PPs X pos [] [] []:=fun pins s σ H Q I h=>pairTrees_nil_walk {[],H,I,.nil,h}
theorem Ab{X:Cx}{pos:Pos}{k v:cS}{ks:List (Option cS)}{vs:List cS}{tk tv:TE}{Z:List (TE×TE)}(hk:PE X k tk)(hv:PE X v tv)(hr:PPs X pos ks vs Z) :
  PPs X pos (some k::ks) (v::vs) ((tk,tv)::Z):=fun pins s σ H Q I h=>
 pairTrees_cons_walk (thn (hk pins s σ H _ I h) fun u U ⟨x,H1,M,O,q1⟩=>thn (hv pins U σ H1 _ M q1) fun w2 s2 ⟨y,H2,g,V,D⟩=>
  thn (hr pins s2 σ H2 _ g D) fun ws s3 ⟨ps,J,z,Y,W⟩=>{(x,y)::ps,J,z,.cons ⟨O,V⟩ Y,W})
def lI(kvs more:List (Key×V)):List (Key×V):=more.foldl (fun Z Y=>iY Z Y.1 Y.2) kvs
theorem KV.merge:∀{more:List (Key×V)} {rs:List (Key×af)} {kvs:List (Key×V)} {vs:List (Key×af)},KV more rs->KV kvs vs->KV (lI kvs more) (merged vs rs):=by
 intro more rs kvs vs r;unfold KV at r
 induction r generalizing kvs vs with
 |nil=>intro q;exact q
 |@cons p q ps qs h t Y=>
  intro Z;have e:KV (iY kvs p.1 p.2) (wg vs q.1 q.2):=by
   have:=Z.put p.1 h.2;rw[<- h.1];exact this
  exact Y e
theorem rp:∀(more kvs:List (Key×V)),(lI kvs more).length<=kvs.length+more.length
 | [],kvs=>by show kvs.length<=kvs.length+0;omega
 |p::r,kvs=>by
  have h1:=rp r (iY kvs p.1 p.2);have h2:=mE kvs p.1 p.2;show (lI (iY kvs p.1 p.2) r).length<=_;rw[aR];omega
theorem wy{P:aK}{w:bD}:∀{kvs:List (Key×V)} {Z:List (af×af)},VV (kvs.map fun Y=>(kV Y.1,Y.2)) Z->∃rs,Carries (gb P w) Z rs/\KV kvs rs
 | [],_,r=>by rw[uD]at r;cases r;exact{[],True.intro,.nil}
 |p::kvs,_,r=>by
  rw[cm]at r
  cases r with
  |@cons a b U bs h t=>
   obtain⟨rs,c,q⟩:=wy (P:=P) (w:=w) t;obtain⟨O,W⟩:=b;exact{(p.1,W)::rs,{wj h.1,rfl,c},.cons ⟨rfl,h.2⟩ q}
def tDisp(Z:List (TE×TE)):TE:=fun σ H Q=>∀p,H p=none->Bt Z σ (upd H p (.dK [])) fun ps H2=>H2 p=some (.dK [])/\∃kvs:List (Key×V),ps=kvs.map (fun Y=>(kV Y.1,Y.2))/\kvs.length<=15/\Q (.ref p) (upd H2 p (.dK (lI [] kvs)))
theorem Cp{X:Cx}{pos:Pos}{keys:List (Option cS)}{Z:List cS}{V:List (TE×TE)}(h:PPs X pos keys Z V)(W:keys.all (·.isSome)=true)(hl:keys.length=Z.length)(h0:keys≠[])
  (U:keys.length<=15):PE X (.Dict keys Z pos) (tDisp V):=by
 intro pins s σ H Q I q;have hn:=I.hok.fresh (ay s.heap.objs.size);have I1:=I.laid (a:=s.heap.objs.size) (o:=.dK []) (h':=s.heap.push {cls:=.type "dict",data:=.dict #[]}) (t':=s.toks) (fun _ _ q=>aI _ q) (ay _) (Aa s.heap I.big);refine wpAny_Dict_walk (knd:=gb X.prog X.w) W hl h0 U (thn (h pins _ σ _ _ I1 (q _ hn)) fun ws s2 ⟨ps,H2,M,O,e,kvs,D,lk,q2⟩=>?_);subst D;obtain⟨rs,c,rk⟩:=wy (P:=X.prog) (w:=X.w) O;obtain⟨z,hd,bB,g,dd⟩:=Lg M.hok e
 cases g;refine{rs,c,dd,fun h' Y hs=>{.ref s.heap.objs.size,_,?_,rfl,q2}};have J:(lI [] kvs).length<=aB:=by
  have h1:=rp kvs [];rw[cw]at h1;rw[me];omega
 have he:∃q,h'.get? s.heap.objs.size=some q:=let ⟨q,_,_,hq,_⟩:=Y;⟨q,hq⟩;exact yO M (by rw[e];exact True.intro) hs he (yP J hd (rk.merge .nil) Y)
section
variable{X:Cx}{pins:List (aa×Obj)}{σ:St}{H:Hp}{s:ak}{a:aa}{y d:V}{u r:af}{o:Option V}{A:bX}{E:af->ak->Prop}
end
section
variable{X:Cx}{o e f:cS}{apos cpos:Pos}{td ty tx:TE}
end
section
variable{X:Cx}{pins:List (aa×Obj)}{σ:St}{H:Hp}{s:ak}{a:aa}{kvs:List (Key×V)}{A:bX}{E:af->ak->Prop}
end
section
variable{X:Cx}{pins:List (aa×Obj)}{σ:St}{H:Hp}{s:ak}{a:aa}{y:V}{u:af}{A:bX}{E:af->ak->Prop}
end
section
variable{X:Cx}
end
section
variable{κ:Type}[DecidableEq κ]
theorem FX{kvs:List (κ×V)}{k:κ}(h:jN kvs k=none):¬k∈kvs.map (·.1):=by
 intro m;obtain⟨p,hp,e⟩:=cH.mp m;have q:(kvs.any fun Z=>decide (Z.1=k))=true:=IV.mpr {p,hp,decide_eq_true e};rw[ko,h]at q;exact absurd q (by simp)
theorem Cq{kvs:List (κ×V)}{k:κ}{v:V}(h:jN kvs k=some v):k∈kvs.map (·.1):=by
 have q:(kvs.any fun Z=>decide (Z.1=k))=true:=by
  rw[ko,h]
  all_goals rfl
 obtain⟨p,hp,e⟩:=IV.mp q;exact cH.mpr {p,hp,of_decide_eq_true e}
theorem yQ:∀{l:List κ} {k:κ},l.Nodup->¬k∈l->(l++[k]).Nodup
 | [],k,_,_=>by simp
 |a::r,k,h,hk=>by
  obtain⟨h1,h2⟩:=cK.mp h;show (a::(r++[k])).Nodup;refine cK.mpr {fun m=>?_,yQ h2 fun m=>hk (ar.mpr (Or.inr m))}
  rcases bM.mp m with q|q
  ·exact h1 q
  ·exact hk (ar.mpr (Or.inl (aA.mp q).symm))
end
end L2
set_option maxHeartbeats 4000000
namespace L2
open PySem PySem.Spec PyProof.Rows
theorem eO.has{P:aK}{w:bD}{H:Hp}{h:cB}{a:aa}{o:HO}(x:eO P w H h a o):∃ob,h.get? a=some ob:=by
 cases o with
 |lst xs=>obtain⟨_,_,_,_,e⟩:=x;exact{_,e}
 |tup xs=>obtain⟨_,_,_,ob,e,_⟩:=x;exact{_,e}
 |dK kvs=>obtain⟨_,_,_,_,o,_,_,e,_⟩:=x;exact{_,e}
 |dT kvs=>obtain⟨_,_,_,_,o,_,_,e,_⟩:=x;exact{_,e}
 |set S n=>obtain⟨o,_,_,_,e,_⟩:=x;exact{_,e}
 |ins C dx fs=>obtain⟨_,_,_,e,_⟩:=x;exact{_,e}
 |own y=>exact x
 |xd fs=>obtain⟨_,⟨_,_,_,e,_⟩,_⟩:=x;exact{_,e}
 |rng lo hi=>obtain⟨_,_,_,e⟩:=x;exact{_,e}
 |frz ob u=>obtain⟨e,_⟩:=x;exact{_,e}
 |tbl ps=>exact{_,(show h.get? a=some _ from x)}
 |met f y=>exact{_,(show h.get? a=some _ from x)}
 |ext φ=>obtain⟨_,e,_⟩:=x;exact e
theorem HOk.has{P:aK}{w:bD}{H:Hp}{h:cB}(x:HOk P w H h){b:aa}(n:H b≠none):∃ob,h.get? b=some ob:=by
 cases z:H b with
 |none=>exact absurd z n
 |some u=>exact (x b u z).has
def FlD(B:cB)(l:List Env)(e:aa)(cls fl:af)(h:cB):Prop:=
 B.StaysIn h/\B.get? e=none/\h.FunFrames B l/\∃Z vs T Y W,h.get? e=some Z/\Z.cls=cls/\Z.dict=none/\Z.data=.fields vs/\vs[1]?=some (.ref T)/\B.get? T=none/\T≠e/\h.get? T=some Y/\Y.data=.fields W/\W[3]?=some fl
theorem Ep(o:Obj)(f:Array af->Array af):(o.mapFields f).dict=o.dict:=by
 obtain⟨c,d,Z,sl⟩:=o
 cases Z<;>rfl
section
variable{M:Jb}{A:bX}{E:af->ak->Prop}{s:ak}{B:cB}{env:Env}{outer l:List Env}{L e:aa}{cls fl:af}{Q:Unit->ak->Prop}
theorem Ac{Y:Obj}{vs:Array af}{Z:af}{nx:Bool}(O:A.frames=some (env::outer))(hl:s.heap.FunFrames B (env::outer))(hf:env.frame=some L)(V:s.heap.get? e=some Y)(g:B.StaysIn s.heap)(H:B.get? e=none)
  (hd:Y.data=.fields vs) (J:1<vs.size) (U:Y.dict=none) (k:∀h',FlD B (env::outer) e Y.cls (tM L) h'->s.heap.UpToSlots h'->Q () {s with heap:=h'}) :
  aW M A (do let a <- frameOf env;let pl <- entryPlaceOf L nx;let b <- yR Z a .none (tM L) .none pl;setField (.ref e) 1 b) Q E s:=by
 have ef:e∉(env::outer).filterMap (·.frame):=fun hm=>by
  obtain⟨_,o,ho,q⟩:=hl.mem hm;rw[V]at ho
  cases ho;exact q vs hd
 refine ao (wpAny_frameOf_fun O hl hf fun h1 g1=>ao (wpAny_entryPlaceOf fun pl W=>?_));unfold yR newFields;refine ao (jc ?_ (W.sizeOk5 _ _ _ _ _));have e1:h1.get? e=some Y:=(g1.2.1 e ef).trans V;have D:B.StaysIn h1:=fun b o z=>(g1.2.1 b fun hm=>by rw[(hl.mem hm).1]at z;cases z).trans (g b o z);have ne:h1.objs.size≠e:=pY (aP e1);generalize hob:({cls:=.type "traceback",dict:=none,data:=.fields ([Z,.ref L,.none,tM L,.none]++(if pl.isEmpty then cF 6 Value.none else pl)).toArray}:Obj)=ob;have I:(h1.push ob).get? e=some Y:=aI _ e1;have t2:(h1.push ob).get? h1.objs.size=some ob:=cz h1 (by rw[<- hob];rfl);refine Bu I hd J (k _ ?_ ?_)
 ·have d3:=tW hd (·.setIfInBounds 1 (Value.ref h1.objs.size));have keep:∀b o,b≠e->h1.get? b=some o->((h1.push ob).update e (tH (·.setIfInBounds 1 (Value.ref h1.objs.size)))).get? b=some o:=fun b o q z=>by
   rw[fX _ _ (gm q)];exact aI _ z
  refine{fun b o z=>keep b o (fun q=>by rw[q,H]at z;cases z) (D b o z),H,hl.of_keeps fun b o z q=>?_,_,_,h1.objs.size,ob,_,qN _ I (Cr d3),Obj.cls_mapFields _ _,(Ep _ _).trans U,d3,by simp[J],D.fresh,ne,?_,by rw[<- hob],?_}
  ·obtain⟨sl,w⟩:=g1.2.2 b o z;exact{_,keep b _ (fun y=>by rw[y,V]at z;cases z;exact q vs hd) w,rfl}
  ·rw[fX _ _ (gm ne)];exact t2
  ·first|(simp;done)|(rcases W with rfl|⟨_,_,_,_,_,_,_,rfl⟩<;>simp)
 ·intro b o z q;obtain⟨sl,w⟩:=g1.2.2 b o z;refine{sl,?_};rw[fX _ _ (fun y=>by rw[<- y,V]at z;cases z;exact q vs hd)];exact aI _ w
theorem vp{T:aa}{Y:Obj}{W:Array af}{h:cB}(V:h.get? T=some Y)(Z:Y.data=.fields W){b:aa}{o:Obj}(hb:h.get? b=some o)(q:∀vs,o.data≠.fields vs):b≠T:=fun y=>by
 rw[y,V]at hb
 cases hb;exact q W Z
theorem Cs(W:A.frames=some (env::outer))(O:env.frame=some L)(x:FlD B (env::outer) e cls .none s.heap)(k:∀h',FlD B (env::outer) e cls (tM L) h'->s.heap.UpToSlots h'->Q () {s with heap:=h'}) :
  aW M A (Ff (.ref e) env) Q E s:=by
 obtain⟨I,g,hl,oe,vs,T,oT,ts,V,rfl,Y,hd,h1,D,Te,Z,dT,U⟩:=x;unfold Ff;simp only[O];refine ao (mh V hd h1 ?_);rw[if_pos (show (Value.ref T != Value.none)=true from by simp)];refine ao (mh Z dT U ?_);rw[if_neg (show ¬((Value.none==tM L)=true) from by simp[tM])];refine ao (Bu Z dT (mj.mp U).1 ?_);have ot:∀b,b≠T->(s.heap.update T (tH (·.setIfInBounds 3 Value.none))).get? b=s.heap.get? b:=fun b hb=>fX _ _ (gm hb);refine Ac (s:={s with heap:=s.heap.update T (tH (·.setIfInBounds 3 Value.none))}) W (hl.of_keeps fun b o z q=>{o,(ot b (vp Z dT z q)).trans z,rfl}) O ((ot e (gm Te)).trans V)
  (fun b o z=>(ot b fun y=>by rw[y,D]at z;cases z).trans (I b o z)) g hd (mj.mp h1).1 Y fun h' J H=>k h' J fun b o z q=>H b o ((ot b (vp Z dT z q)).trans z) q
theorem sL(x:FlD B l e cls fl s.heap)(k:∀h',FlD B l e cls .none h'->s.heap.UpToSlots h'->Q () {s with heap:=h'}):aW M A (setFlight (.ref e) none) Q E s:=by
 obtain⟨J,g,hl,H,vs,T,oT,D,U,hc,Y,hd,h1,W,O,Z,dT,I⟩:=x;have V:3<D.size:=(mj.mp I).1;have ot:∀b,b≠T->(s.heap.update T (tH (·.setIfInBounds 3 ((none:Option aa).elim Value.none fun f=>tM f)))).get? b=s.heap.get? b:=fun b hb=>fX _ _ (gm hb);unfold setFlight;refine ao (mh U hd h1 ?_);rw[if_pos (show (Value.ref T != Value.none)=true from by simp)];refine Bu Z dT V (k _ {fun b o z=>(ot b fun y=>by rw[y,W]at z;cases z).trans (J b o z),g,hl.of_keeps fun b o z q=>{o,(ot b (vp Z dT z q)).trans z,rfl},H,vs,T,_,_,(ot e (gm O)).trans U,hc,Y,hd,h1,W,O,qN _ Z (Cr (tW dT _)),tW dT _,by simp[V]}
  fun b o z q=>{o.slots,(ot b (vp Z dT z q)).trans z})
theorem FlD.tail(x:FlD B (env::outer) e cls fl s.heap):FlD B outer e cls fl s.heap:=by
 obtain⟨a,b,⟨_,_,c⟩,d⟩:=x;exact⟨a,b,c,d⟩
theorem FlD.there{h:cB}(x:FlD B l e cls fl h):∃ob,h.get? e=some ob/\ob.cls=cls:=by
 obtain⟨_,_,_,Y,_,_,_,_,Z,hc,_⟩:=x;exact⟨Y,Z,hc⟩
theorem Er(Z:A.frames=some (env::outer))(W:env.frame=some L)(x:FlD B (env::outer) e cls .none s.heap)(k:∀h',FlD B outer e cls .none h'->s.heap.UpToSlots h'->Q () {s with heap:=h'}):aW M A (AW env (.ref e)) Q E s:=by
 unfold AW;refine ao (Cs Z W x fun h1 x1 u1=>sL (s:={s with heap:=h1}) x1 fun h2 Y u2=>k h2 (FlD.tail (s:={s with heap:=h2}) Y) (u1.trans u2))
theorem Jv{h:cB}{args:List af}(Z:A.frames=some (env::outer))(W:env.frame=some L)(Y:B.StaysIn h)(hl:h.FunFrames B (env::outer))(x:Lh h s.heap e cls args)
  (k:∀h',FlD B outer e cls .none h'->s.heap.UpToSlots h'->Q () {s with heap:=h'}):aW M A (AW env (.ref e)) Q E s:=by
 obtain⟨t,V,O,ht⟩:=x.there;have en:B.get? e=none:=by
  cases q:B.get? e with
  |none=>rfl
  |some o=>have z:=Y e o q;rw[x.new]at z;cases z
 unfold AW Ff;simp only[W];refine ao (ao (mh (x:=Value.none) V rfl rfl ?_));rw[if_neg (show ¬((Value.none != Value.none)=true) by decide)];exact Ac Z (hl.of_keeps fun b o z _=>{o,x.keeps b o z,rfl}) W V (fun b o z=>x.keeps b o (Y b o z)) en rfl (show 1<6 by decide) rfl fun h1 x1 u1=>sL (s:={s with heap:=h1}) x1 fun h2 U u2=>k h2 (FlD.tail (s:={s with heap:=h2}) U) (u1.trans u2)
end
def Fly(B:cB)(stk:List Env)(Z C:aa)(h:cB):Prop:=FlD B stk Z (.ref C) .none h
def CXo(P:aK)(w:bD):CXT:=fun outer H s E e s'=>
 ∃(Z C:aa) (H':Hp) (B:cB),e=.ref Z/\E (.ref C) none H'/\s'.os=s.os/\pP s'.gens/\Un (frs outer) [] H H' s.heap s'.heap/\HOk P w H' s'.heap/\Fly B outer Z C s'.heap /\
  ∀b o,(H' b≠none\/∃o',s.heap.get? b=some o')->b∉frs outer->s'.heap.get? b=some o->B.get? b=some o
theorem Un.left{fs stk:List aa}{H₀ H:Hp}{h₀ h h' B:cB}(u:Un fs [] H₀ H h₀ h)(W:B.StaysIn h')(Z:∀b o,(H b≠none\/∃o',h₀.get? b=some o')->b∉stk->h.get? b=some o->B.get? b=some o)
  (hst:∀b o,h₀.get? b=some o->b∈stk->b∈fs) (sl:∀b∈fs,∀o,h.get? b=some o->∃sl,h'.get? b=some {o with slots:=sl}):Un fs [] H₀ H h₀ h' where
 keep:=fun b o e n hb hx=>W b o (Z b o (.inr ⟨o,e⟩) (fun z=>hb (hst b o e z)) (u.keep b o e n hb hx))
 slot:=fun b o e n hb hx=>by
  obtain⟨V,e1⟩:=u.slot b o e n hb hx;obtain⟨s2,Y⟩:=sl b hb _ e1;exact⟨s2,Y⟩
 free:=u.free
 there:=fun b o e hx=>by
  obtain⟨o',e'⟩:=u.there b o e hx
  by_cases hb:b∈stk
  ·obtain⟨s2,Y⟩:=sl b (hst b o e hb) _ e';exact{_,Y}
  ·exact{o',W b o' (Z b o' (.inr ⟨o,e⟩) hb e')}
 tups:=u.tups
 frzs:=u.frzs
 tbls:=u.tbls
theorem HOk.left{P:aK}{w:bD}{H:Hp}{h h' B:cB}(ok:HOk P w H h)(Y:B.StaysIn h')(Z:∀b o,H b≠none->h.get? b=some o->B.get? b=some o):HOk P w H h':=fun a o e=>
 (ok a o e).stay (fun b u hb q=>Y b u (Z b u (by
  rcases hb with z|z
  ·rw[z,e];simp
  ·rw[z];simp) q)) (fun _ q=>q) (fun _ _ q=>q)
section
variable{X:Cx}{pins:List (aa×Obj)}{σ:St}{H:Hp}{s:ak}{E E':XK}
theorem Inv.oldfs(I:Inv X pins σ H s):∀b o,X.s₀.heap.get? b=some o->b∈frs X.stack->b∈X.fs:=fun b o e hb=>by
 rcases ar.mp (I.stkSub b hb) with z|z
 ·exact absurd (bj (aP e) I.ok.above) (by rw[z];exact hU _)
 ·exact z
theorem Inv.ntr(I:Inv X pins σ H s):∀b,H b≠none->b∉frs X.stack:=fun b Z z=>Z (I.stkFree b z)
theorem Inv.slotsOf(I:Inv X pins σ H s){h':cB}(sm:s.heap.UpToSlots h'):∀b∈X.fs,∀o,s.heap.get? b=some o->∃sl,h'.get? b=some {o with slots:=sl}:=fun b hb o e=>by
 obtain⟨_,o',Z,hd⟩:=I.funs.mem hb;rw[e]at Z
 cases Z;exact sm b o e hd
structure uE(X:Cx)(E:XK):Prop where
 stk:X.stack=X.env::X.outer
 fr:X.env.frame=some X.env.locals
 ex:X.ex=[]
 xe:X.xe=fun e s'=>aW (aZ X.prog X.w) X.A (AW X.env e) (fun _ s''=>CXo X.prog X.w X.outer X.H₀ X.s₀ E e s'') (fun e' s''=>CXo X.prog X.w X.outer X.H₀ X.s₀ E e' s'') s'
theorem dO{P:aK}{w:bD}{K:ae}{mg:Str->Option af}{base:cB}{N:List Str}{Y:Str}{Z:lZ}{f:aa}{W:af}{A:bX}{outer:List Env} :
  uE (tS (CXo P w) P w K mg base N Y Z f W A outer s H E) E:=⟨rfl,rfl,rfl,rfl⟩
theorem uE.raises(hb:uE X E)(I:Inv X pins σ H s){h':cB}{e C:aa}{vs:List af}(hx:Lh s.heap h' e (.ref C) vs)(q:E (.ref C) none H):X.xe (.ref e) {s with heap:=h'}:=by
 rw[hb.xe];have O:X.A.frames=some (X.env::X.outer):=by rw[I.ok.frames,hb.stk]
 have U:∀env∈X.stack,∀a,env.frame=some a->a∈frs X.stack:=fun env g a ha=>tF.mpr ⟨env,g,ha⟩;have fl:s.heap.FunFrames (o7 s.heap (frs X.stack)) (X.env::X.outer):=by
  have z:=PySem.W.funFrames_hide I.stack U;rw[hb.stk]at z |-;exact z
 have D:Un X.fs [] X.H₀ H X.s₀.heap s.heap:=by
  have z:=I.base;rw[hb.ex]at z;exact z
 have Z:∀b o,b∉frs X.stack->s.heap.get? b=some o->(o7 s.heap (frs X.stack)).get? b=some o:=fun b o n e=>AS _ e n;refine Jv (B:=o7 s.heap (frs X.stack)) (h:=s.heap) O hb.fr (fun b o z=>A3 _ z) fl hx fun Y x1 x4=>?_;have sm:s.heap.UpToSlots Y:=(OR hx.keeps).trans x4;refine{e,C,H,_,rfl,q,I.os,I.bare,D.left (stk:=frs X.stack) x1.1 (fun b o _ n e=>Z b o n e) I.oldfs (I.slotsOf sm),I.hok.left x1.1 (fun b o n e=>Z b o (I.ntr b n) e),x1,?_};intro b o c n e1;have nb:b∉frs X.stack:=by
  rcases c with c|⟨o',c⟩
  ·exact I.ntr b c
  ·exact fun z=>n (I.oldfs b o' c z)
 obtain⟨V,J⟩:∃V,s.heap.get? b=some V:=by
  rcases c with c|⟨o',c⟩
  ·exact I.hok.has c
  ·exact D.there b o' c (by simp)
 have e3:Y.get? b=some V:=x1.1 b V (Z b V nb J);have M:Y.get? b=some o:=e1;rw[e3]at M
 cases M;exact Z b _ nb J
theorem uE.passes(hb:uE X E)(hE:∀c d H,E' c d H->E c d H):lC (CXo X.prog X.w) X E':=fun pins σ H s e s' I h=>by
 obtain⟨M,C,H',B,rfl,q,os,bare,un,hok,fl,O⟩:=h;have J:Inv X pins σ H' s':=I.call' (ch:=[]) os un hok bare (fun b z=>absurd z (by simp));rw[hb.xe];have U:X.A.frames=some (X.env::X.outer):=by rw[I.ok.frames,hb.stk]
 have ub:Un X.fs [] X.H₀ H' X.s₀.heap s'.heap:=by
  have z:=J.base;rw[hb.ex]at z;exact z
 have ui:Un X.fs [] X.H₀ H X.s₀.heap s.heap:=by
  have z:=I.base;rw[hb.ex]at z;exact z
 have Z:∀b o,(H' b≠none\/∃o',X.s₀.heap.get? b=some o')->b∉frs X.stack->s'.heap.get? b=some o->B.get? b=some o:=fun b o c n e=>
  O b o (c.imp_right fun⟨o',z⟩=>ui.there b o' z (by simp)) n e
 have V:FlD B (X.env::X.outer) M (.ref C) .none s'.heap:=by
  rw[<- hb.stk];exact fl
 refine Er U hb.fr V fun Y x1 x2=>?_;refine{M,C,H',B,rfl,hE _ _ _ q,J.os,J.bare,ub.left (stk:=frs X.stack) x1.1 Z J.oldfs (J.slotsOf x2),J.hok.left x1.1 (fun b o n e=>Z b o (.inl n) (J.ntr b n) e),x1,?_};intro b o c n e1;have nb:b∉frs X.stack:=by
  rcases c with c|⟨o',c⟩
  ·exact J.ntr b c
  ·exact fun z=>n (J.oldfs b o' c z)
 obtain⟨W,g⟩:∃W,s'.heap.get? b=some W:=by
  rcases c with c|⟨o',c⟩
  ·exact J.hok.has c
  ·exact ub.there b o' c (by simp)
 have e3:Y.get? b=some W:=x1.1 b W (Z b W c nb g);have D:Y.get? b=some o:=e1;rw[e3]at D
 cases D;exact Z b _ c nb g
end
section
variable{X:Cx}{E:XK}{x:Str}{C:aa}{np cpos pos:Pos}{e₀:cS}{rest:List cS}{ta:TA}{K:ae}{h:cB}
theorem Jw{V:List af}{Z:String}(X:K.In h)(q:cR K C V Z=true) :
  ∃bm N nm q bs hdct sn sub ab col dd k0 k1 k2 k3 k5 mN,h.get? C=some (excClassObj nm q C N bs bm hdct sn sub ab col dd k0 k1 k2 k3 k5 Z)/\h.Ns N mN/\mN "__init__"=none/\OwnTail h V bm:=by
 unfold cR at q
 split at q
 ·rename_i dd cd sl ho
  split at q
  ·rename_i C' bm k0 k1 k2 k3 n k5 hm hs
   simp only[jb,beq_iff_eq,Bool.not_eq_true']at q;obtain⟨⟨⟨⟨⟨rfl,rfl⟩,Y⟩,ht⟩,hok⟩,U⟩:=q;obtain⟨nm,bs,M,ns,qn,hd,sn,sub,ab,col,J⟩:=cd;dsimp only at hm Y hok U;subst hm Y;have e:sl=#[k0,k1,k2,k3,some (.builtin n),k5]:=by
    obtain⟨l⟩:=sl;have O:l=[k0,k1,k2,k3,some (.builtin n),k5]:=hs;rw[O]
   subst e;exact{bm,ns,nm,qn,bs,hd,sn,sub,ab,col,dd,k0,k1,k2,k3,k5,_,X _ _ ho,.of_isNs (PySem.W.isNs_of_in X hok),PySem.W.nsMap_none_of_in X hok U,PySem.W.tail_of_in X ht}
  ·cases q
 ·cases q
def oN:List af:=[.type "ValueError",.type "Exception",.type "BaseException",.type "object"]
def Nb(C:aa)(E:XK)(ta:TA):TS:=fun _ σ H=>ta σ H fun vs H1=>vs.length<=aB/\E (.ref C) none H1
theorem jF(hb:uE X E)(hc:X.calm=true)(U:Gl X x)(hm:X.mg x=some (.ref C))(hx:cR X.K C oN "ValueError.__new__"=true)(ha:PA X (e₀::rest) ta)
  (hd:(x==("__debug__":Str))=false:=by decide) (V:cE (e₀::rest) X.env=(false,gf e₀ X.env)::cE rest X.env:=by rfl) (Y:(jm cpos (cE rest X.env)).any (·.1)=false:=by rfl) :
  PS X (.Raise (some (.Call (.Name x np) (e₀::rest) [] cpos)) none pos) (Nb C E ta):=by
 intro pins s σ H D I h;obtain⟨bm,N,nm,q,bs,hdct,sn,sub,ab,col,dd,k0,k1,k2,k3,k5,mN,O,J,W,T⟩:=Jw I.ok.mod.kin hx;have base:oN.contains (.type "BaseException")=true:=F.excBase_ValueError.hasBase;refine wpAny_Raise_call_subT (C:=C) (nm:=nm) (q:=q) (N:=N) (bs:=bs) (bm:=bm) (hdct:=hdct) (sn:=sn) (sub:=sub) (ab:=ab) (col:=col) (dd:=dd) (k0:=k0) (k1:=k1) (k2:=k2) (k3:=k3) (k5:=k5)
  F.excBase_ValueError (mN:=mN) (T.hasType base) (I.ok.hd hc) (by rw[V];show (false||(jm cpos (cE rest X.env)).any (·.1))=false;rw[Y];rfl) W (rY I U hm {rfl,?_} hd)
 have h1:=ha cpos pins s σ H _ I h;rw[V]at h1 |-;refine Bp (eV h1 (fun us s2 z=>?_) fun _ _ y=>y);obtain⟨vs,H1,Z,r,hl,M⟩:=z;exact{rfl,by rw[<- r.length];exact hl,Z.bk _ _ O,J.keeps Z.bk,T.keeps Z.bk,fun h' e hm=>hb.raises Z hm M}
end
section
variable{X:Cx}{pins:List (aa×Obj)}{σ:St}{H:Hp}{s:ak}{T:aa->St->Hp->Prop}
def yS(X:Cx)(pins:List (aa×Obj))(H:Hp)(B h:cB):Prop:=
 ∀b o,(H b≠none\/(b∉X.ex/\∃o',X.s₀.heap.get? b=some o')\/∃p∈X.pn++pins,p.1=b)->b∉frs X.stack->h.get? b=some o->B.get? b=some o
def tryW(X:Cx)(pins:List (aa×Obj))(T:aa->St->Hp->Prop):af->ak->Prop:=fun e s'=>
 ∃Z C B σ H,e=.ref Z/\Inv X pins σ H s'/\Fly B X.stack Z C s'.heap/\yS X pins H B s'.heap/\T C σ H
abbrev Cx.tr(X:Cx)(pins:List (aa×Obj))(T:aa->St->Hp->Prop):Cx:={X with xe:=tryW X pins T,pn:=X.pn++pins}
theorem Inv.tr(I:Inv X pins σ H s)(T:aa->St->Hp->Prop):Inv (X.tr pins T) [] σ H s:=
 {⟨I.ok.mod,I.ok.kind,I.ok.glob,I.ok.blt,I.ok.above,I.ok.inj,I.ok.has,I.ok.cab,I.ok.hd,I.ok.frames,I.ok.stk,I.ok.exf,I.ok.bs,I.ok.bsz,I.ok.noex,I.ok.exfs,I.ok.funs,I.ok.frf⟩,I.os,I.bare,I.base,I.loc,I.cell,I.free,I.freeC,
  fun p hp=>I.pin p (by simpa using hp),I.hok,I.len}
theorem Inv.untr{Z:List (aa×Obj)}(I:Inv (X.tr pins T) Z σ H s):Inv X pins σ H s:=
 {⟨I.ok.mod,I.ok.kind,I.ok.glob,I.ok.blt,I.ok.above,I.ok.inj,I.ok.has,I.ok.cab,I.ok.hd,I.ok.frames,I.ok.stk,I.ok.exf,I.ok.bs,I.ok.bsz,I.ok.noex,I.ok.exfs,I.ok.funs,I.ok.frf⟩,I.os,I.bare,I.base,I.loc,I.cell,I.free,I.freeC,
  fun p hp=>I.pin p (gZ _ hp),I.hok,I.len}
theorem Ct{h h':cB}{c:aa}{v:Option af}(x:h.IsCell c v)(sm:h.UpToSlots h'):h'.IsCell c v:=by
 obtain⟨o,ho,hd⟩:=x;obtain⟨sl,e⟩:=sm c o ho (fun vs q=>by rw[hd]at q;cases q);exact{_,e,hd}
theorem Inv.landed{B h':cB}(I:Inv X pins σ H s)(W:B.StaysIn h')(Z:yS X pins H B s.heap)(sm:s.heap.UpToSlots h'):Inv X pins σ H {s with heap:=h'}:=by
 refine{I.ok,I.os,I.bare,{fun b o e n hb hx=>?_,fun b o e n hb hx=>?_,I.base.free,fun b o e hx=>?_,I.base.tups,I.base.frzs,I.base.tbls},?_,fun x c e=>?_,I.free,I.freeC,fun p hp=>?_,I.hok.left W (fun b o n e=>Z b o (.inl n) (I.ntr b n) e),I.len}
 ·exact W b o (Z b o (.inr (.inl ⟨hx,o,e⟩)) (fun z=>hb (I.oldfs b o e z)) (I.base.keep b o e n hb hx))
 ·obtain⟨U,e1⟩:=I.base.slot b o e n hb hx;obtain⟨s2,Y⟩:=I.slotsOf sm b hb _ e1;exact⟨s2,Y⟩
 ·obtain⟨o',e'⟩:=I.base.there b o e hx
  by_cases hb:b∈frs X.stack
  ·obtain⟨s2,Y⟩:=I.slotsOf sm b (I.oldfs b o e hb) _ e';exact{_,Y}
  ·exact{o',W b o' (Z b o' (.inr (.inl ⟨hx,o,e⟩)) hb e')}
 ·obtain⟨m,V,hl⟩:=I.loc;refine{m,sm.ns V,fun i x v e1 Y e3=>?_};obtain⟨u,r,l⟩:=hl i x v e1 Y e3;refine{u,r,?_}
  rcases l with l|⟨k,c,e,l⟩
  ·exact .inl l
  ·exact .inr {k,c,e,Ct l sm}
 ·obtain⟨v,q⟩:=I.cell x c e;exact{v,Ct q sm}
 ·obtain⟨e,n,l,f,d⟩:=I.pin p hp;exact{W _ _ (Z p.1 p.2 (.inr (.inr ⟨p,hp,rfl⟩)) (fun z=>(ar.mp (I.stkSub _ z)).elim l f) e),n,l,f,d}
theorem yS.land{B h':cB}(I:Inv X pins σ H s)(V:B.StaysIn h')(Z:yS X pins H B s.heap):yS X pins H B h':=fun b o c n e=>by
 obtain⟨Y,e1⟩:∃Y,s.heap.get? b=some Y:=by
  rcases c with c|⟨hx,o',c⟩|⟨p,hp,rfl⟩
  ·exact I.hok.has c
  ·exact I.base.there b o' c hx
  ·exact{_,(I.pin p hp).1}
 have W:=V b Y (Z b Y c n e1);rw[e]at W
 cases W;exact Z b _ c n e1
abbrev Cx.hdl(X:Cx)(Z:aa):Cx:={X with A:=X.A.mark (some (.ref Z)),calm:=false,xe:=fun _ _=>False}
theorem Inv.hdl(I:Inv X pins σ H s)(Z:aa):Inv (X.hdl Z) pins σ H s:=
 {{I.ok.mod,I.ok.kind,I.ok.glob,I.ok.blt,I.ok.above,I.ok.inj,I.ok.has,I.ok.cab,fun z=>vt z,I.ok.frames,I.ok.stk,I.ok.exf,I.ok.bs,I.ok.bsz,I.ok.noex,I.ok.exfs,I.ok.funs,I.ok.frf},I.os,I.bare,I.base,I.loc,I.cell,I.free,I.freeC,
  I.pin,I.hok,I.len}
theorem Inv.unhdl{Z:aa}(ok:X.Ok)(I:Inv (X.hdl Z) pins σ H s):Inv X pins σ H s:=⟨ok,I.os,I.bare,I.base,I.loc,I.cell,I.free,I.freeC,I.pin,I.hok,I.len⟩
abbrev TH:=aa->TS
def PHs(X:Cx)(hs:List vv)(th:TH):Prop:=
 ∀(pins:List (aa×Obj)) (s:ak) (σ:St) (H:Hp) (D:mY) (Z C:aa) (B:cB),Inv X pins σ H s->Fly B X.stack Z C s.heap->yS X pins H B s.heap->th C D σ H ->
  aW (aZ X.prog X.w) X.A (handleBy (.ref Z) X.env hs) (SP X pins D) X.xe s
def thNil:TH:=fun _ _ _ _=>False
theorem Jx:PHs X [] thNil:=fun _ _ _ _ _ _ _ _ _ _ _ h=>h.elim
def Cu(CX:CXT)(X:Cx)(E:St->XK):Prop:=∀(pins:List (aa×Obj)) (σ:St) (H:Hp) (s:ak) (e:af) (s':ak),Inv X pins σ H s->CX X.stack H s (E σ) e s'->X.xe e s'
def tryE(T:aa->St->Hp->Prop):St->XK:=fun σ c _ H=>∃C,c=.ref C/\T C σ H
theorem Bv:Cu (CXo X.prog X.w) (X.tr pins T) (tryE T):=fun Z σ H s e s' I h=>by
 obtain⟨W,C,H',B,rfl,⟨U,V,q⟩,os,bare,un,hok,fl,Y⟩:=h
 cases V;have J:Inv (X.tr pins T) Z σ H' s':=I.call' (ch:=[]) os un hok bare (fun b z=>absurd z (by simp));refine{W,C,B,σ,H',rfl,J.untr,fl,fun b o c n e=>Y b o ?_ n e,q}
 rcases c with c|⟨c1,o',c2⟩|⟨p,hp,rfl⟩
 ·exact .inl c
 ·exact .inr (I.base.there b o' c2 c1)
 ·exact .inr {_,(I.pin p (gZ _ hp)).1}
def Nc(sp:Sp)(E:St->XK)(t:TA):TE:=fun σ H Q=>t σ H fun vs H1=>sp vs H1 Q (E σ)
variable{CX:CXT}{k:Nat}{f:aa}{fd:bU}{ps:List Str}{sp:Sp}{E:St->XK}{x:Str}{p pos:Pos}{e:cS}{es:List cS}{t:TA}
theorem FY(F:bC X.prog X.w X.K X.mg X.base CX k f fd ps sp)(hr:cX k X.A)(O:Gl X x)(hm:X.mg x=some (.ref f))(hk:gL X.K (.ref f)=true)(hb:Binds X.K fd ps [])(hx:Cu CX X E)(ha:PA X (e::es) t)
  (V:(x==("__debug__":Str))=false:=by decide) (M:cE (e::es) X.env=(false,gf e X.env)::cE es X.env:=by rfl) (U:(jm pos (cE es X.env)).any (·.1)=false:=by rfl) :
  PE X (.Call (.Name x p) (e::es) [] pos) (Nc sp E t):=by
 intro pins s σ H Q I h;refine iD (rY I O hm ?_ V);refine lD (h₀:=X.base) I.ok.mod.kin hk (thn (ha pos pins s σ H _ I h) fun us W z=>?_) M U;obtain⟨vs,H1,Z,r,q⟩:=z;refine{Z.kIn,?_};have hl:(us++[]).length=ps.length:=by
  rw[cq,<- r.length];exact F.len _ _ _ _ q
 have Y:=hb W us Z.kIn hl;rw[cq]at Y;refine Bh (nG (F.run X.A X.stack W H1 {us,[]} us vs Q (E σ) hr Z.env0 Y r q) fun r s' hq=>?_)
 cases r with
 |error e=>exact hx pins σ H1 W e s' Z hq
 |ok fl=>
  cases fl with
  |ret u=>exact Z.after hq
  |next=>exact cV hq
  |brk=>exact cV hq
  |cont=>exact cV hq
end
theorem Fun.okX{P:aK}{w:bD}{K:ae}{mg:Str->Option af}{base:cB}{x Z:Str}{st:c9}{f:aa}{fd:bU}{N ps:List Str}{k:Nat}{sp:Sp}(F:Fun K x Z st f fd)(S:bO N ps (aN st))(len:∀vs H Q E,sp vs H Q E->vs.length=ps.length)
  (W:∀(Y:af) (A:bX) (outer:List Env) (s:ak) (H:Hp) (vs:List V) (Q:VK) (E:XK),cX k (A.deeper (tT Z (aN st) s.heap.objs.size f Y))->sp vs H Q E ->
   ∃t,PSs (tS (CXo P w) P w K mg base N Z (aN st) f Y A outer s H E) (jh st) t/\t {nx:=fun _ H'=>Q .non H',rt:=Q} (start N vs) H):bC P w K mg base (CXo P w) (k+1) f fd ps sp:=by
 obtain⟨z,od,kV,J,D,g,Y,ct,I,rfl,M,U⟩:=F.ex;exact Ld M U S len fun A outer s H vs Q E hr O=>W Y A outer s H vs Q E hr O
theorem yT{prog:aK}{w:bD}{A:bX}{R:MU->ak->Prop}{s:ak}{V Z W:cS}{U:List cS}{Y:lZ}{pos:Pos}{it O:af}{env:Env}(J:Nat->ak->Prop)
  (turn:∀n s,J n s->aW (aZ prog w) A (pyNext it) (fun r M=>match r with
   |none=>R (.ok .next) M
   |some v=>aW (aZ prog w) A (rT Z it v) (fun _ s2=>aW (aZ prog w) A (yz Z env v) (fun _ s3=>
     aW (aZ prog w) A (forIn U true fun c r=>if r=true then do let ok <- Fl c env (gf c env);pure (ForInStep.yield ok) else pure (ForInStep.yield r)) (fun ok I=>
      if ok=true then aW (aZ prog w) A (gf V env) (fun x H=>aW (aZ prog w) A (yC (.builtin "list.append") [O,x]) (fun _ g=>∃m,m<n/\J m g) (fun _ _=>False) H) (fun _ _=>False) I
      else ∃m,m<n/\J m I) (fun _ _=>False) s3) (fun _ _=>False) s2) (fun _ _=>False) M) (fun _ _=>False) s)
  (n:Nat) (h:J n s):pS (aZ prog w) A (.compLoop (.ListComp V [{Z,W,U,0}] Y pos) 0 it O env) R s:=by
 refine codeAny_loop rfl J (fun n s hI=>?_) n h;show aW _ A ((compTurn (.ListComp V [{Z,W,U,0}] Y pos) 0 it O env).onRaise
  (fun x=>do Ff x env;theTreesLotGoes x)) _ _ s
 refine wpAny_noted ?_;rw[compTurn_list];refine ao (Eb (ao (eV (turn n s hI) (fun r M h1=>?_) fun _ _ z=>z.elim)))
 cases r with
 |none=>exact aU h1
 |some v=>
  refine ao (eV h1 (fun _ s2 h2=>?_) fun _ _ z=>z.elim);refine ao (eV h2 (fun _ s3 h3=>?_) fun _ _ z=>z.elim);refine ao (eV h3 (fun ok I D=>?_) fun _ _ z=>z.elim)
  cases ok with
  |false=>exact aU ⟨rfl,D⟩
  |true=>
   refine ao (ao (eV D (fun x H h5=>?_) fun _ _ z=>z.elim));exact ao (eV h5 (fun _ g h6=>aU (aU ⟨rfl,h6⟩)) fun _ _ z=>z.elim)
theorem Ad{env:Env}:∀{names:List (Str×kK)} {x:Str},
  (names.map fun (n,k)=>if (k==NameKind.free&&env.scope.kind==.function&&env.kindOf n==some .cell) then (n,NameKind.cell) else (n,k)).lookup x=some .local->names.lookup x=some .local
 | [],_,h=>by simp at h
 |(n,k)::r,x,h=>by
  have Z:=@Ad env r x;rw[cm]at h;dsimp only at h
  by_cases hc:(k==NameKind.free&&env.scope.kind==.function&&env.kindOf n==some .cell)=true
  ·rw[if_pos hc]at h
   cases hx:x==n with
   |true=>simp[cG,hx]at h
   |false=>
    simp only[cG,hx]at h |-;exact Z h
  ·rw[if_neg hc]at h
   cases hx:x==n with
   |true=>
    simp only[cG,hx]at h |-;exact h
   |false=>
    simp only[cG,hx]at h |-;exact Z h
theorem yU{env:Env}:∀{names:List (Str×kK)} {x:Str},
  ((names.map fun (n,k)=>if (k==NameKind.free&&env.scope.kind==.function&&env.kindOf n==some .cell) then (n,NameKind.cell) else (n,k)).lookup x=some .cell \/
   (names.map fun (n,k)=>if (k==NameKind.free&&env.scope.kind==.function&&env.kindOf n==some .cell) then (n,NameKind.cell) else (n,k)).lookup x=some .free)->names.lookup x=some .cell\/names.lookup x=some .free
 | [],_,h=>by simp at h
 |(n,k)::r,x,h=>by
  have Z:=@yU env r x;rw[cm]at h;dsimp only at h
  by_cases hc:(k==NameKind.free&&env.scope.kind==.function&&env.kindOf n==some .cell)=true
  ·rw[if_pos hc]at h;have hk:k=.free:=by
    have z:=(rq.mp (rq.mp hc).1).1;exact eq_of_beq z
   cases hx:x==n with
   |true=>
    simp only[cG,hx];rw[hk];exact .inr rfl
   |false=>
    simp only[cG,hx]at h |-;exact Z h
  ·rw[if_neg hc]at h
   cases hx:x==n with
   |true=>
    simp only[cG,hx]at h |-;exact h
   |false=>
    simp only[cG,hx]at h |-;exact Z h
def p9(env:Env):List (Str×kK)->List (Str×aa)->List (Str×aa)
 | [],Z=>Z
 |(n,k)::r,Z=>p9 env r (if k=.free then (match env.cells.lookup n with|some c=>(n,c)::Z|none=>Z) else Z)
theorem Ae{env:Env}:∀(names:List (Str×kK)) (Z:List (Str×aa)),(∀y∈names,y.2=.free->∃c,env.cells.lookup y.1=some c) ->
  (forIn names Z fun x r=>(do
   if (x.2==NameKind.free)=true then do
    let c <- cellOf env x.1
    pure (ForInStep.yield ((x.1,c)::r))
   else pure (ForInStep.yield r):Sem (ForInStep (List (Str×aa)))))=(pure (p9 env names Z):Sem (List (Str×aa)))
 | [],Z,_=>rfl
 |(n,k)::r,Z,h=>by
  have V:=fun Y=>Ae r Y (fun y hy=>h y (ag _ hy));rw[List.forIn_cons]
  by_cases hk:k=.free
  ·subst hk;obtain⟨c,hc⟩:=h _ aC rfl;have e1:cellOf env n=pure c:=by
    unfold cellOf;rw[show env.cells.lookup n=some c from hc]
   have W:p9 env ((n,.free)::r) Z=p9 env r ((n,c)::Z):=by
    show p9 env r (if NameKind.free=.free then (match env.cells.lookup n with|some c=>(n,c)::Z|none=>Z) else Z)=_;rw[if_pos rfl,show env.cells.lookup n=some c from hc]
   rw[W,<- V];simp[e1]
  ·have W:p9 env ((n,k)::r) Z=p9 env r Z:=by
    show p9 env r (if k=.free then _ else Z)=_;rw[if_neg hk]
   rw[W,<- V];have e3:(k==NameKind.free)=false:=by
    cases k<;>first|rfl|exact absurd rfl hk
   simp[e3]
theorem Af{env:Env}:∀{names:List (Str×kK)} {Z:List (Str×aa)} {n:Str} {c:aa},(∀n c,Z.lookup n=some c->env.cells.lookup n=some c)->(p9 env names Z).lookup n=some c->env.cells.lookup n=some c
 | [],_,_,_,h,e=>h _ _ e
 |(m,k)::r,Z,n,c,h,e=>by
  refine Af (names:=r) (fun W Y e'=>?_) e
  by_cases hk:k=.free
  ·rw[if_pos hk]at e'
   cases hm:env.cells.lookup m with
   |none=>
    rw[hm]at e';exact h _ _ e'
   |some d=>
    rw[hm]at e';dsimp only at e';rw[cG]at e'
    split at e'
    ·rename_i z
     rw[eq_of_beq z,hm];exact e'
    ·exact h _ _ e'
  ·rw[if_neg hk]at e';exact h _ _ e'
theorem x6{env:Env}:∀(names:List (Str×kK)) (Z:List (Str×aa)) (n:Str),(∃c,Z.lookup n=some c)->∃c,(p9 env names Z).lookup n=some c
 | [],_,_,h=>h
 |(m,k)::r,Z,n,h=>by
  refine x6 r _ n ?_
  by_cases hk:k=.free
  ·rw[if_pos hk]
   cases hm:env.cells.lookup m with
   |none=>exact h
   |some d=>
    dsimp only;rw[cG]
    split
    ·exact{_,rfl}
    ·exact h
  ·rw[if_neg hk];exact h
theorem Ag{env:Env}:∀{names:List (Str×kK)} {Z:List (Str×aa)} {n:Str},(n,NameKind.free)∈names->(∃c,env.cells.lookup n=some c)->∃c,(p9 env names Z).lookup n=some c
 | [],_,_,h,_=>by cases h
 |(m,k)::r,Z,n,h,hc=>by
  rcases ar.mp h with e|e
  ·obtain⟨e1,Y⟩:=Prod.mk.inj e;subst e1 Y;obtain⟨c,hc⟩:=hc;refine x6 r _ n {c,?_};rw[if_pos rfl,hc];dsimp only;rw[cG,beq_self_eq_true]
  ·exact Ag (names:=r) e hc
structure iH(X:Cx)(scope:lZ)(NN:List Str):Prop where
 nocell:∀y∈scope.names,y.2≠.cell
 kind:scope.kind=.function
 names:∀y∈scope.names,y.2=.local->scope.names.lookup y.1=some .local
 far:∀y∈scope.names,y.2=.free->X.env.kindOf y.1=some .cell\/X.env.kindOf y.1=some .free
 len:NN.length=X.N.length
 apart:∀(i:Nat) (n:Str),NN[i]?=some n->scope.names.lookup n≠some .local/\(X.N[i]?=some n\/scope.names.lookup n=none)
theorem iH.closed{X:Cx}{Z:lZ}(W:∀y∈Z.names,y.2≠.free)(hc:∀y∈Z.names,y.2≠.cell)(hk:Z.kind=.function)(Y:∀y∈Z.names,y.2=.local->Z.names.lookup y.1=some .local)
  (ha:∀n∈X.N,Z.names.lookup n≠some .local):iH X Z X.N where
 nocell:=hc
 kind:=hk
 names:=Y
 far:=fun y hy e=>absurd e (W y hy)
 len:=rfl
 apart:=fun i n e=>{ha n (cA e),.inl e}
theorem iH.open{X:Cx}{Z:lZ}{NN N:List Str}{sc:lZ}(V:X.N=N)(Y:X.env.scope=sc)(hc:∀y∈Z.names,y.2≠.cell)(hk:Z.kind=.function)(O:∀y∈Z.names,y.2=.local->Z.names.lookup y.1=some .local)
  (U:∀y∈Z.names,y.2=.free->sc.names.lookup y.1=some .cell) (hl:NN.length=N.length) (ha:∀p∈NN.zip N,Z.names.lookup p.1≠some .local/\(p.2=p.1\/Z.names.lookup p.1=none)):iH X Z NN where
 nocell:=hc
 kind:=hk
 names:=O
 far:=fun y hy e=>.inl (by have z:=U y hy e;rw[<- Y]at z;exact z)
 len:=by rw[V];exact hl
 apart:=fun i n e=>by
  have lt:i<N.length:=by rw[<- hl];exact (aF.mp e).1
  have W:N[i]?=some N[i]:=aE lt;have z:=ha (n,N[i]) (cA (i:=i) (by rw[yV];exact⟨e,W⟩));refine{z.1,?_}
  rcases z.2 with z|z
  ·left
   rw[V,W];exact congrArg some z
  ·exact .inr z
abbrev cxC(X:Cx)(Z:lZ)(V:List Str)(fp:List aa)(W:ak)(Y:Hp)(C:aa):Cx:=
 {X with N:=V,s₀:=W,H₀:=Y,env:=compEnvC Z (p9 X.env Z.names []) C X.env,outer:=X.stack,ex:=fp,fn:=fun _=>false,pn:=[],xe:=fun _ _=>False}
def PTs(X:Cx)(Z:List cS)(t:TT):Prop:=
 ∀(pins:List (aa×Obj)) (s:ak) (σ:St) (H:Hp) (Q:Bool->Hp->Prop),Inv X pins σ H s->t σ H Q ->
  aW (aZ X.prog X.w) X.A (forIn Z true fun c r=>if r=true then do let ok <- Fl c X.env (gf c X.env);pure (ForInStep.yield ok) else pure (ForInStep.yield r)) (TP X pins σ Q) X.xe s
def xu:TT:=fun _ H Q=>Q true H
theorem kT{X:Cx}:PTs X [] xu:=fun pins s σ H Q I h=>wpAny_tests_nil ⟨H,I,h⟩
theorem Jy{X:Cx}{c:cS}{t:TT}(h:PT X c t):PTs X [c] t:=fun pins s σ H Q I q=>wpAny_tests_one (h pins s σ H Q I q)
def uF(n:Nat)(I:TI)(g:TG)(tc:TT)(te:TE):TE:=fun σ H Q=>I σ H fun J H1=>∃W:Nat->Nat->List V->Hp->Prop,(∃m,W 0 m [] H1)/\∀i m ys H,W i m ys H->ys.length<aB /\
 ((J.stop i H/\∀p,H p=none->Q (.ref p) (upd H p (.lst ys))) \/
  (J.go i H/\∃N:List V->Hp->Prop,(∀Y H',N Y H'->∃U,U<m/\W (i+1) U Y H')/\∀x H',J.yld i H x H'->g x (cF n none++σ) H' fun Z H2=>Z.drop n=σ/\tc Z H2 fun b O=>
   if b=true then te Z O fun y M=>N (ys++[y]) M else N ys O))
section
variable{X:Cx}
theorem Ah{σ Z:St}{n:Nat}(h:Z.drop n=σ)(i:Nat)(v:V)(e:(cF n none++σ)[i]?=some (some v)):Z[i]?=some (some v):=by
 by_cases hi:i<n
 ·rw[eM (by simpa using hi),o9,if_pos hi]at e
  cases e
 ·rw[cP (by simpa using hi),km]at e;rw[<- h,Fg]at e;rw[show n+(i-n)=i by omega]at e;exact e
theorem Ai{gt O hL:cS}{gd:List cS}{Z:lZ}{NN:List Str}{pos pos':Pos}{wi:TI}{g:TG}{tc:TT}{te:TE}{use:Option (af->Sem Unit)}{Qv:af->ak->Prop}(own:List Str)(ok:iH X Z NN)(hc:X.calm=true)(hi:PI X O hL wi)
  (hg:∀fp hK hQ C,PG (cxC X Z (own++NN) fp hK hQ C) O g) (ht:∀fp hK hQ C,PTs (cxC X Z (own++NN) fp hK hQ C) gd tc) (he:∀fp hK hQ C,PE (cxC X Z (own++NN) fp hK hQ C) gt te)
  (hs:∀x,pQ hL X.env x=pure x) {pins:List (aa×Obj)} {s:ak} {σ:St} {H:Hp} {Q:VK} (I:Inv X pins σ H s) (h:uF own.length wi g tc te σ H Q)
  (fa:∀(s4:ak) (C D:aa) (H':Hp) (m:Str->Option af),s4.heap.Ns C m->Inv X pins σ H' s4->H' C=none->C≠X.env.locals->X.s₀.heap.objs.size<=C->(∀x c,X.env.cells.lookup x=some c->c≠C)->(∀p∈X.pn++pins,p.1≠C)->Q (.ref D) H' ->
   compPost (aZ X.prog X.w) X.A X.xe use Qv (.ref D) C (.ok .next) s4) :
  aW (aZ X.prog X.w) X.A (comprehension (.ListComp gt [{O,hL,gd,0}] Z pos) Z X.env pos' (newList []) false (gf hL X.env) use) Qv X.xe s:=by
 have fk:∀y∈Z.names,y.2=.free->∃c,X.env.cells.lookup y.1=some c:=fun y hy e=>I.ok.has _ (ok.far y hy e);have hB:closureFor Z X.env=pure (p9 X.env Z.names []):=by
  unfold closureFor;rw[<- Ae Z.names [] fk];simp
 have Y:∀n c,(p9 X.env Z.names []).lookup n=some c->X.env.cells.lookup n=some c:=fun n c e=>Af (fun n c e=>by simp at e) e;have hG:∀n,(Z.names.lookup n=some .cell\/Z.names.lookup n=some .free)->(∃c,(p9 X.env Z.names []).lookup n=some c)/\(X.env.kindOf n=some .cell\/X.env.kindOf n=some .free):=fun n e=>by
  rcases e with e|e
  ·exact absurd rfl (ok.nocell _ (gC e))
  ·have m:=gC e;exact{Ag m (fk _ m rfl),ok.far _ m rfl}
 refine wpAny_comprehension_free (use:=use) rfl hs hB ok.kind ok.names (thn (hi pins s σ H _ I h) fun xv s1 h1=>thn h1 fun el s2 h2=>?_);obtain⟨it,fp,tn,J,H2,e,I2,T,ge,f2,W,⟨m0,w0⟩,turn⟩:=h2;subst e;have hH:∀b∈fp,b<s2.heap.objs.size:=fun b hb=>by
  obtain⟨o,e,_⟩:=T.obj _ _ ge b hb;exact aP e
 refine jc (wpAny_newFunctionEnv ok.nocell (by intro y hy;simp at hy) (fun h1 gw hE=>?_) ok.kind);dsimp only at gw hE |-;generalize hP:s2.heap.push {cls:=.type "list",dict:=none,data:=.seq ([]:List af).toArray}=P at gw hE |-;have hC:P.objs.size=s2.heap.objs.size+1:=by rw[<- hP,xP]
 have ft:s2.heap.objs.size≠P.objs.size:=by rw[hC];exact aQ (vY _)
 have hI:s2.heap.objs.size<=P.objs.size:=by rw[hC];exact gs _
 have old:∀b o,s2.heap.get? b=some o->h1.get? b=some o:=fun b o e=>
  hE.extBut b o (by rw[hC];exact aQ (jX (aP e))) (aI _ (hP ▸ aI _ e))
 have fz:h1.get? s2.heap.objs.size=some {cls:=.type "list",data:=.seq ([]:List af).toArray 0}:=hE.extBut _ _ ft (aI _ (hP ▸ cz _ rfl))
 -- the block's context is well made
 have gl:(cxC X Z (own++NN) fp s2 H2 P.objs.size).Ok:=by
  refine{I.ok.mod,ok.kind,I.ok.glob,I.ok.blt,by show s2.heap.objs.size<=P.objs.size;omega,fun y z c a b=>I.ok.inj y z c (Y _ _ a) (Y _ _ b),fun y hy=>(hG y (yU hy)).1,fun y c z _=>vt z,I.ok.hd,I.ok.frames,.inl rfl,
   fun b hb=>{fun z=>?_,fun y c e=>(f2 b hb).2.2.2.2.1 y c (Y _ _ e)},I2.bs,dA I.ok.bsz I2.sz,fun b o e hb=>?_,fun b hb z=>?_,I2.stack,I2.stkFree}
  ·exact aQ (bj (hH b hb) hI) z
  ·rcases (f2 b hb).2.2.2.1 with q|q
   ·exact I.ok.noex b o e q
   ·exact absurd (bj (aP e) (dA I.ok.bsz q)) (hU _)
  ·rcases ar.mp (I2.stkSub b z) with q|q
   ·exact (f2 b hb).2.1 q
   ·exact (f2 b hb).2.2.1 q
 have fpOk:∀{H':Hp} {o:Obj},(∀b∈fp,H' b=none)->∀b∈fp,yB (cxC X Z (own++NN) fp s2 H2 P.objs.size) [(s2.heap.objs.size,o)] H' b:=fun {H' o} hn b hb=>by
  have lt:=hH b hb;refine{hn b hb,fun z=>?_,fun z=>gl.exfs b hb z,.inl hb,fun y c e=>(gl.exf b hb).2 y c e,fun p hp z=>?_}
  ·exact aQ (bj lt hI) z
  ·have gr:p=(s2.heap.objs.size,o):=by simpa using hp
   subst gr;exact aQ lt (Eq.symm z)
 have hz:∀y c,(p9 X.env Z.names []).lookup y=some c->c<s2.heap.objs.size:=fun y c e=>by
  obtain⟨v,q⟩:=I2.cell y c (Y _ _ e);exact q.lt
 have start:Inv (cxC X Z (own++NN) fp s2 H2 P.objs.size) [] (cF own.length none++σ) H2 {s2 with heap:=h1,toks:=s2.toks+([]:List (Str×af)).length}:=by
  refine{gl,rfl,I2.bare,Un.kept old,{_,gw,fun i y v e1 e2 e3=>?_},fun y c e=>?_,I2.hok.fresh (by show s2.heap.objs.size<=P.objs.size;omega),fun y c e=>I2.freeC y c (Y _ _ e),fun p hp=>absurd (show p∈([]:List (aa×Obj)) from by simpa using hp) (by simp),I2.hok.kept old,?_}
  ·by_cases hi:i<own.length
   ·rw[eM (by simpa using hi),o9,if_pos hi]at e2
    cases e2
   ·have ew:NN[i-own.length]?=some y:=by
     have z:(own++NN)[i]?=some y:=e1;rw[cP (by omega)]at z;exact z
    rw[cP (by simpa using hi),km]at e2;obtain⟨eo,ey⟩:=ok.apart _ y ew
    rcases e3 with e3|e3
    ·exact absurd (Ad e3) eo
    ·obtain⟨⟨c,eL⟩,kc⟩:=hG y (yU e3);have et:X.N[i-own.length]?=some y:=by
      rcases ey with z|z
      ·exact z
      ·rcases yU e3 with q|q<;>(rw[z]at q;cases q)
     obtain⟨m,hn,hl⟩:=I2.loc;obtain⟨u,r,l⟩:=hl (i-own.length) y v et e2 (.inr kc);refine{u,r,.inr {e3,c,eL,?_}}
     rcases l with⟨l,_⟩|⟨_,c',e',q⟩
     ·rcases kc with kc|kc<;>(rw[l]at kc;cases kc)
     ·rw[Y _ _ eL]at e'
      cases e';exact q.keeps old
  ·obtain⟨v,q⟩:=I2.cell y c (Y _ _ e);exact{v,q.keeps old}
  ·show (cF own.length none++σ).length=(own++NN).length;rw[ax,ax,km,I2.len,ok.len]
 have hA:s2.heap.objs.size≠P.objs.size:=ft;have er:s2.heap.objs.size∉frs X.stack:=fun z=>by
  rcases ar.mp (I2.stkSub _ z) with q|q
  ·exact aQ I2.lt (Eq.symm q)
  ·exact I2.nofs (ay _) q
 have ha:∀s₃:ak,s₃={s2 with heap:=h1,toks:=s2.toks+([]:List (Str×af)).length} ->
   pS (aZ X.prog X.w) X.A (.compLoop (.ListComp gt [{O,hL,gd,0}] Z pos) 0 (.ref it) (.ref s2.heap.objs.size) (compEnvC Z (p9 X.env Z.names []) P.objs.size X.env))
    (compPost (aZ X.prog X.w) X.A X.xe use Qv (.ref s2.heap.objs.size) P.objs.size) s₃:=by
  rintro s₃ rfl;refine yT (fun n s'=>∃(i:Nat) (ys:List V) (H':Hp) (U:List af) (k:Nat),Inv (cxC X Z (own++NN) fp s2 H2 P.objs.size) [] (cF own.length none++σ) H' s'/\tn i s'.heap/\(∀b∈fp,H' b=none)/\H' s2.heap.objs.size=none/\c5 ys U /\
   s'.heap.get? s2.heap.objs.size=some {cls:=.type "list",data:=.seq U.toArray k}/\W i n ys H') ?_ m0
   {0,[],H2,[],0,start,T.keep _ _ _ ge (fun b _ o e=>old b o e),fun b hb=>(f2 b hb).1,I2.hok.fresh (ay _),.nil,fz,w0}
  rintro n s3 ⟨i,ys,H3,U,k,I3,fx,fo,nD,rv,hD,w3⟩;have Ip:Inv (cxC X Z (own++NN) fp s2 H2 P.objs.size) [(s2.heap.objs.size,{cls:=.type "list",data:=.seq U.toArray k})] (cF own.length none++σ) H3 s3:=I3.pins_of fun p hp=>by
   have gr:p=(s2.heap.objs.size,{cls:=.type "list",data:=.seq U.toArray k}):=by simpa using hp
   subst gr;exact{hD,nD,hA,er,fun v z=>by cases z}
  obtain⟨hl,hw⟩:=turn i n ys H3 w3
  rcases hw with⟨stop,fin⟩|⟨go,N,hN,step⟩
  ·refine thn (T.done (cxC X Z (own++NN) fp s2 H2 P.objs.size) rfl rfl rfl hc i _ s3 _ H3 _ Ip (fpOk fo) fx stop) fun r s4 z=>?_;obtain⟨hr,I4⟩:=z;subst hr;obtain⟨m,hn,_⟩:=I4.loc;have ep:s4.heap.get? s2.heap.objs.size=some {cls:=.type "list",data:=.seq U.toArray k}:=(I4.pin _ (aX _ aC)).1;obtain⟨h',fy⟩:∃h',h'=s4.heap:={_,rfl};have hF:∀b o,b≠P.objs.size->s4.heap.get? b=some o->h'.get? b=some o:=fun b o hb e=>by rw[fy];exact e
   have hR:∀b o,s2.heap.get? b=some o->b≠P.objs.size/\b≠s2.heap.objs.size:=fun b o e=>by
    have lt:=aP e;exact{aQ (bj lt hI),aQ lt}
   have M:∀b u,H3 b=some u->b≠P.objs.size/\b≠s2.heap.objs.size:=fun b u e=>by
    refine{fun z=>?_,fun z=>?_}
    ·have q:H3 P.objs.size=none:=I4.free;rw[<- z,e]at q
     cases q
    ·rw[z,nD]at e
     cases e
   have un:Un (frs X.stack) fp H2 (upd H3 s2.heap.objs.size (.lst ys)) s2.heap h':=by
    have B:=I4.base;refine{fun b o e q hb hx=>hF b o (hR b o e).1 (B.keep b o e q hb hx),fun b o e q hb hx=>?_,fun b o e q hx=>?_,fun b o e hx=>?_,fun b xs e=>?_,fun b o u e=>?_,fun b ps e=>?_}
    ·obtain⟨sl,e1⟩:=B.slot b o e q hb hx;exact{sl,hF _ _ (hR b o e).1 e1}
    ·rw[aL (hR b o e).2];exact B.free b o e q hx
    ·obtain⟨o',e1⟩:=B.there b o e hx;exact{o',hF _ _ (hR b o e).1 e1}
    ·have q:=B.tups b xs e;rw[aL (M _ _ q).2];exact q
    ·have q:=B.frzs b o u e;rw[aL (M _ _ q).2];exact q
    ·obtain⟨more,q⟩:=B.tbls b ps e;refine{more,?_};rw[aL (M _ _ q).2];exact q
   have hok:HOk X.prog X.w (upd H3 s2.heap.objs.size (.lst ys)) h':=fun b u e=>by
    by_cases hb:b=s2.heap.objs.size
    ·subst hb;rw[ah]at e
     cases e;exact{l8 hl,U,k,rv,hF _ _ hA ep}
    ·rw[aL hb]at e;refine (I4.hok b u e).stay (fun c v hc q=>hF c v ?_ q) (fun c q=>?_) fun c xs q=>?_
     ·rcases hc with z|z
      ·rw[z];exact (M _ _ e).1
      ·exact (M _ _ z).1
     ·rw[aL (M _ _ q).2];exact q
     ·rw[aL (M _ _ q).2];exact q
   have J:=I2.call' (s':={s4 with heap:=h'}) (ch:=fp) I4.os un hok I4.bare fun b hb=>{(f2 b hb).2.2.2.1,(f2 b hb).2.1,(f2 b hb).2.2.2.2.1,(f2 b hb).2.2.2.2.2};subst fy;refine fa s4 P.objs.size s2.heap.objs.size (upd H3 s2.heap.objs.size (.lst ys)) m hn J ?_ ?_ ?_ (fun y c e=>?_) (fun q hq=>?_) (fin _ nD)
   ·rw[aL hA.symm];exact I4.free
   ·exact pY (bj I2.lt hI)
   ·exact dA I2.sz hI
   ·obtain⟨v,z⟩:=I2.cell y c e;exact aQ (bj z.lt hI)
   ·exact aQ (bj (aP (I2.pin q hq).1) hI)
  ·refine thn (T.item (cxC X Z (own++NN) fp s2 H2 P.objs.size) rfl rfl rfl hc i _ s3 _ H3 _ Ip (fpOk fo) fx go) fun r s4 z=>?_;obtain⟨u,hr,h4⟩:=z;subst hr;refine thn h4 fun _ s5 z=>?_;obtain⟨x,H5,I5,r5,y5,gq,ez⟩:=z;have eF:=I5.pinned (fpOk ez) (T.obj _ _ gq);refine thn (hg fp s2 H2 P.objs.size _ s5 _ H5 x u _ eF r5 (step x H5 y5)) fun _ s6 z=>?_;obtain⟨hO,H6,I6,fe,q6⟩:=z;refine thn (ht fp s2 H2 P.objs.size _ s6 hO H6 _ I6 q6) fun em s7 z=>?_;obtain⟨H7,I7,q7⟩:=z;have hf:∀{H8:Hp} {s8:ak},Inv (cxC X Z (own++NN) fp s2 H2 P.objs.size) ([(s2.heap.objs.size,{cls:=.type "list",data:=.seq U.toArray k})]++tN fp s5.heap) hO H8 s8 ->
     s8.heap.get? s2.heap.objs.size=some {cls:=.type "list",data:=.seq U.toArray k}/\H8 s2.heap.objs.size=none:=fun I8=>by
    have z:=I8.pin (s2.heap.objs.size,{cls:=.type "list",data:=.seq U.toArray k}) (aX _ (gZ _ aC));exact⟨z.1,z.2.1⟩
   have gM:∀{H8:Hp} {s8:ak},Inv (cxC X Z (own++NN) fp s2 H2 P.objs.size) ([(s2.heap.objs.size,{cls:=.type "list",data:=.seq U.toArray k})]++tN fp s5.heap) hO H8 s8 ->
     tn (i+1) s8.heap/\∀b∈fp,H8 b=none:=fun {H8 s8} I8=>by
    refine{T.keep _ _ _ gq fun b hb o e=>(I8.pin (b,o) (aX _ (aX _ (oF hb e)))).1,fun b hb=>?_};obtain⟨o,e,_⟩:=T.obj _ _ gq b hb;exact (I8.pin (b,o) (aX _ (aX _ (oF hb e)))).2.1
   have hj:(cF own.length none++σ).length=hO.length:=by rw[I6.len,start.len]
   cases em with
   |false=>
    have eu:N ys H7:=q7;obtain⟨m',lt,w'⟩:=hN _ _ eu;obtain⟨d1,d2⟩:=hf I7;obtain⟨p1,p2⟩:=gM I7;have J7:Inv (cxC X Z (own++NN) fp s2 H2 P.objs.size) [] hO H7 s7:=I7.pins_of (fun p hp=>absurd hp (by simp));exact{m',lt,i+1,ys,H7,U,k,J7.weak hj (Ah fe),p1,p2,d2,rv,d1,w'}
   |true=>
    refine thn (he fp s2 H2 P.objs.size _ s7 hO H7 _ I7 q7) fun v8 s8 z=>?_;obtain⟨y,H8,I8,r8,n8⟩:=z;obtain⟨m',lt,w'⟩:=hN _ _ n8;obtain⟨d1,d2⟩:=hf I8;obtain⟨p1,p2⟩:=gM I8;refine append_at (hsz:=by rw[aG,<- rv.length];exact l8 hl) d1 fun h9 sb eH=>?_;have J8:Inv (cxC X Z (own++NN) fp s2 H2 P.objs.size) [] hO H8 s8:=I8.pins_of (fun p hp=>absurd hp (by simp));have J9:Inv (cxC X Z (own++NN) fp s2 H2 P.objs.size) [] hO H8 {s8 with heap:=h9}:=J8.turned (t':=s8.toks) (it:=s2.heap.objs.size) (fun b o hb e=>sb.extBut b o hb e) d2 hA (.inr (ay _)) (fun y c e=>aQ (hz y c e)) (fun p hp=>absurd hp (by simp));refine{m',lt,i+1,ys++[y],H8,U++[v8],k+1,J9.weak hj (Ah fe),T.keep _ _ _ p1 (fun b hb o e=>sb.extBut b o (aQ (hH b hb)) e),p2,d2,rv.append (.cons r8 .nil),?_,w'};show h9.get? _=_;rw[eH,List.push_toArray]
 exact codeAny_compStart_list (ha _ rfl) (T.self X.A 0 _ _ _ (T.keep _ _ _ ge (fun b _ o e=>old b o e)) (ha _ rfl))
theorem oO{O Y U:cS}{M:List cS}{Z:lZ}{NN:List Str}{pos:Pos}{z:TI}{g:TG}{tc:TT}{te:TE}(own:List Str)(ok:iH X Z NN)(hc:X.calm=true)(hi:PI X Y U z)
  (hg:∀fp W V C,PG (cxC X Z (own++NN) fp W V C) Y g) (ht:∀fp W V C,PTs (cxC X Z (own++NN) fp W V C) M tc) (he:∀fp W V C,PE (cxC X Z (own++NN) fp W V C) O te)
  (hs:∀x,pQ U X.env x=pure x:=by intro _;rfl):PE X (.ListComp O [{Y,U,M,0}] Z pos) (uF own.length z g tc te):=by
 intro pins s σ H Q I h;rw[eval_ListComp];refine Ai (use:=none) own ok hc hi hg ht he hs I h fun s4 C D H' m hn J n1 n2 n3 n4 n5 q=>?_;exact{m,hn,fun h' sb=>{.ref D,H',J.turned (t':=s4.toks) (it:=C) (fun b o hb e=>sb.extBut b o hb e) n1 n2 (.inr n3) n4 n5,rfl,q}}
theorem yW{O Y W:cS}{M:List cS}{Z:lZ}{NN:List Str}{pos pos' bS:Pos}{wi:TI}{g:TG}{tc:TT}{te:TE}{i:Nat}{x:Str}(own:List Str)(ok:iH X Z NN)(hc:X.calm=true)(hN:X.N.Nodup)(bH:X.N[i]?=some x)(hx:Loc X.env.scope x)(hi:PI X Y W wi)
  (hg:∀fp V U C,PG (cxC X Z (own++NN) fp V U C) Y g) (ht:∀fp V U C,PTs (cxC X Z (own++NN) fp V U C) M tc) (he:∀fp V U C,PE (cxC X Z (own++NN) fp V U C) O te)
  (hs:∀x,pQ W X.env x=pure x:=by intro _;rfl) (hf:X.fn x=true\/X.env.scope.names.lookup x=some .local:=by first|exact .inl rfl|exact .inr rfl|assumption)
  (bP:uw (.ListComp O [{Y,W,M,0}] Z pos) (some (.Name x pos')) bS.line X.env=pure true:=by rfl):PS X (.Assign [.Name x pos'] (.ListComp O [{Y,W,M,0}] Z pos) bS) (Fq (uF own.length wi g tc te) (zW i)):=by
 intro pins s σ H D I h;rw[exec_Assign_Name_used _ _ _ _ bP];refine ao (Eb (ao ?_));show aW _ X.A (do let _ <- comprehension (.ListComp O [{Y,W,M,0}] Z pos) Z X.env _ (newList []) false (gf W X.env) (some (yz (.Name x pos') X.env))) _ _ s;refine ao (eV (Ai (use:=some (yz (.Name x pos') X.env)) (Qv:=fun _ s'=>SP X pins D .next s') own ok hc hi hg ht he hs I h fun s4 C DD H' m hn J n1 n2 n3 n4 n5 q=>?_) (fun _ s' hq=>aU (aU hq)) fun _ _ e=>e);show aW _ X.A (yz (.Name x pos') X.env (.ref DD)) _ _ s4;refine OK (xJ J hN bH hx (show RelV (.ref DD) (.ref DD) from rfl) (fun s' J' z=>?_) hf);obtain⟨a,sb,ha⟩:=z;have na:C≠a:=by
  rcases ha with ha|ha
  ·rw[ha];exact n2
  ·exact (n4 x a ha).symm
 refine{m,hn.at' fun o e=>sb.extBut C o na e,fun h' bI=>{_,H',J'.turned (t':=s'.toks) (it:=C) (fun b o hb e=>bI.extBut b o hb e) n1 n2 (.inr n3) n4 n5,q}}
end
section
variable{K:ae}{a:aa}{xs:List V}{n:Nat}{g:TG}{tc:TT}{te:TE}{σ:St}{H:Hp}{Q:VK}
theorem tX(Y:Nat->List V->Hp->Prop)(h0:Y 0 [] H)(hl:∀i ys H,i<=xs.length->Y i ys H->SqL K H a xs/\ys.length<aB)
  (hs:∀i x ys H,xs[i]?=some x->Y i ys H->g x (cF n none++σ) H fun Z H2=>Z.drop n=σ/\tc Z H2 fun b O=>if b=true then te Z O fun y J=>Y (i+1) (ys++[y]) J else Y (i+1) ys O)
  (hd:∀ys H,Y xs.length ys H->∀p,H p=none->Q (.ref p) (upd H p (.lst ys))) :
  ∃W:Nat->Nat->List V->Hp->Prop,(∃m,W 0 m [] H)/\∀i m ys H,W i m ys H->ys.length<aB/\(((Itl K a).stop i H/\∀p,H p=none->Q (.ref p) (upd H p (.lst ys))) \/
   ((Itl K a).go i H/\∃N:List V->Hp->Prop,(∀U H',N U H'->∃I,I<m/\W (i+1) I U H')/\∀x H',(Itl K a).yld i H x H'->g x (cF n none++σ) H' fun Z H2=>Z.drop n=σ/\tc Z H2 fun b O=>
    if b=true then te Z O fun y J=>N (ys++[y]) J else N ys O)):=by
 refine{fun i m ys H=>m=xs.length-i/\i<=xs.length/\Y i ys H,{xs.length,by simp,bV _,h0},?_};rintro i m ys H ⟨rfl,hi,p⟩;obtain⟨q,z⟩:=hl i ys H hi p;refine{z,?_}
 by_cases M:i<xs.length
 ·refine .inr {{xs,xs[i],q,by simp[M]},Y (i+1),fun U H' D=>{xs.length-(i+1),by omega,rfl,M,D},fun x H' y=>?_};obtain⟨e,y⟩:=y;subst e;exact hs i x ys _ (y xs q) p
 ·have e:i=xs.length:=by omega
  subst e;exact .inl {{xs,q,ay _},hd ys H p}
theorem FZ(Y:Nat->List V->Hp->Prop)(h0:Y 0 [] H)(hl:∀i ys H,i<=xs.length->Y i ys H->SqT K H a xs/\ys.length<aB)
  (hs:∀i x ys H,xs[i]?=some x->Y i ys H->g x (cF n none++σ) H fun Z H2=>Z.drop n=σ/\tc Z H2 fun b O=>if b=true then te Z O fun y J=>Y (i+1) (ys++[y]) J else Y (i+1) ys O)
  (hd:∀ys H,Y xs.length ys H->∀p,H p=none->Q (.ref p) (upd H p (.lst ys))) :
  ∃W:Nat->Nat->List V->Hp->Prop,(∃m,W 0 m [] H)/\∀i m ys H,W i m ys H->ys.length<aB/\(((Itt K a).stop i H/\∀p,H p=none->Q (.ref p) (upd H p (.lst ys))) \/
   ((Itt K a).go i H/\∃N:List V->Hp->Prop,(∀U H',N U H'->∃I,I<m/\W (i+1) I U H')/\∀x H',(Itt K a).yld i H x H'->g x (cF n none++σ) H' fun Z H2=>Z.drop n=σ/\tc Z H2 fun b O=>
    if b=true then te Z O fun y J=>N (ys++[y]) J else N ys O)):=by
 refine{fun i m ys H=>m=xs.length-i/\i<=xs.length/\Y i ys H,{xs.length,by simp,bV _,h0},?_};rintro i m ys H ⟨rfl,hi,p⟩;obtain⟨q,z⟩:=hl i ys H hi p;refine{z,?_}
 by_cases M:i<xs.length
 ·refine .inr {{xs,xs[i],q,by simp[M]},Y (i+1),fun U H' D=>{xs.length-(i+1),by omega,rfl,M,D},fun x H' y=>?_};obtain⟨e,y⟩:=y;subst e;exact hs i x ys _ (y xs q) p
 ·have e:i=xs.length:=by omega
  subst e;exact .inl {{xs,q,ay _},hd ys H p}
end
end L2
namespace PySem
theorem yX:MX (.type "list") "keys"=pure none:=by rw[typeLookup_type,builtinLookup_eq_fast];kernel_rfl
theorem Aj:entryFor table "dict.update.loop"=some iE.«dict.update.loop»:=entryFor_of_tree (by kernel_rfl)
section
variable{prog:aK}{w:bD}{A:bX}{E:af->ak->Prop}{s:ak}
theorem Jz{a:aa}{xs:Array af}{k:Nat}{sl:Array (Option af)}{Q:Option af->ak->Prop}(hx:s.heap.get? a=some {cls:=.type "list",dict:=none,data:=.seq xs k,slots:=sl})(V:A.handled=none)
  (h:∀h' tk,(∀b o,s.heap.get? b=some o->h'.get? b=some o)->Q none {s with heap:=h',toks:=tk}):aW (aZ prog w) A (getAttr? (.ref a) "keys") Q E s:=by
 obtain⟨hp,g,d,tk,os⟩:=s;have W:∀Z,(⟨hp,g,d,Z,os⟩:ak).TypeIs (.ref a) "list":=fun _=>{_,hx,rfl};have f1:=sub_AttributeError;have U:=F.slot_list_getattribute.lookup;have I:=F.slot_list_getattribute.bind (.ref a);have M:=am_list_getattr_none;unfold getAttr? getAttrBy? getAttrBy;have go:∀(u:Tok) (tk:Nat) (Q:af->ak->Prop) (E:af->ak->Prop),(∀h' Z e,Heap.NewAttrErr hp h' e (.ref a) "keys"->E (.ref e) ⟨h',g,d,Z,os⟩)->aW (aZ prog w) A (yC (Value.builtin "list.__getattribute__") [.ref a,.str "keys" u]) Q E ⟨hp,g,d,tk,os⟩:=fun u tk Q E k1=>
  rL F.slot_list_getattribute (W _) am_entry_list_getattribute (F.args_list_getattribute_2 _ _) (meets_getattribute_miss_list a xs k sl "keys" _ yX (by decide +kernel)) {hx,V,fun h' Z e Y=>k1 h' Z e Y}
 repeat (any_goals (first|assumption|exact W _|refine go _ _ _ _ (fun h' Z e Y=>?_)|wp_step))
 obtain⟨t',O,J⟩:=Y.there
 repeat (any_goals (first|assumption|wp_step))
 exact h _ _ Y.keeps
def Bw{prog:aK}{w:bD}{K:Type}[DecidableEq K](knd:KeyKind prog w K)(h:cB)(p:K×af)(x:af):Prop:=
 ∃(a:aa) (Z:af) (o:Obj) (n:Nat),x=.ref a/\h.get? a=some o/\o.cls=.type "tuple"/\o.data=.seq #[Z,p.2] n/\knd.is p.1 Z=true
variable{K:Type}[DecidableEq K]{knd:KeyKind prog w K}
theorem F0{a:aa}{o:Obj}{n:Nat}{k v:af}{Q:List af->ak->Prop}(ho:s.heap.get? a=some o)(hc:o.cls=.type "tuple")(hd:o.data=.seq #[k,v] n)(h:Q [k,v] s):aW (aZ prog w) A (vw (.ref a)) Q E s:=by
 unfold vw;have Z:s.TypeIs (.ref a) "tuple":=⟨o,ho,hc⟩;refine ao (FL Z ?_);rw[if_pos (by decide)];refine ao (wpAny_seqItems ho hd (aU ?_));exact h
theorem Cv{R:MU->ak->Prop}{it l d:aa}{items:Array af}{Z:af}(hA:A.handled=none)(hl:l≠d)(hi:it≠d)(dt:it≠l):∀(ps:List (K×af)) (i:Nat) (kvs:List (K×af)) (s:ak) (t:Tok) (z:Int),
  s.heap.IsListIter it l i->s.heap.IsList l items->s.heap.DictOf knd d kvs->aJ (fun p x=>Bw knd s.heap p x/\x≠.ref d/\x≠.ref it) ps (items.toList.drop i)->kvs.length+ps.length<=aB ->
  (∀h' tk,h'.DictOf knd d (ps.foldl (fun m p=>wg m p.1 p.2) kvs)->(∀b o,b≠d->b≠it->s.heap.get? b=some o->h'.get? b=some o)->R (.ok (.ret Z)) {s with heap:=h',toks:=tk}) ->
  pS (aZ prog w) A (.builtin "dict.update.loop" {[.ref d,.ref it,.int z t,Z],[]}) R s
 | [],i,kvs,s,t,z,V,Y,hd,hp,hz,h=>by
  have J:items.toList.drop i=[]:=by
   have e:=hp.length;exact List.length_eq_zero_iff.mp e.symm
  have hx:items[i]?=none:=by
   have e:=List.drop_eq_nil_iff.mp J;simp only[gB]at e;exact Array.getElem?_eq_none e
  refine rV Aj ?_;unfold iE.«dict.update.loop»;dsimp only;refine ao (IT hA V Y hx fun h' eb=>?_);dsimp only;refine ao ?_;unfold Builtin.Dict.addKeywords;refine aU ?_;refine aU (h h' _ (hd.extBut eb hi.symm) fun b o _ hb e=>eb b o hb e)
 |p::ps,i,kvs,s,t,z,V,Y,hd,hp,hz,h=>by
  cases e0:items.toList.drop i with
  |nil=>
   rw[e0]at hp
   cases hp
  |cons x r=>
   rw[e0]at hp
   cases hp with
   |cons h1 h2=>
    obtain⟨⟨a,kv,o,n,rfl,ho,hc,de,hk⟩,nd,ni⟩:=h1;have hx:items[i]?=some (.ref a):=by
     have e:=congrArg (fun l=>l[0]?) e0;simpa using e
    have hr:items.toList.drop (i+1)=r:=by
     have e:=congrArg List.tail e0;simpa using e
    refine rV Aj ?_;unfold iE.«dict.update.loop»;dsimp only;refine ao (Ft V Y hx fun dn O sb=>?_);dsimp only;refine ao (e8 (ao (wpAny_tryCatch ?_)));have cp:a≠it:=fun q=>ni (by rw[q]);have ce:a≠d:=fun q=>nd (by rw[q]);refine F0 (s:={s with heap:=dn}) ((sb.2 a cp).trans ho) hc de ?_;dsimp only;refine e8 (wpAny_dictSet_pairs (s:={s with heap:=dn}) hk (hd.extBut sb.extBut hi.symm) (fun D cr I=>?_) (by simp only[aR]at hz;omega));refine aU {Fh _ (by decide +kernel),?_};have keep:∀b ob,b≠d->b≠it->s.heap.get? b=some ob->D.get? b=some ob:=fun b ob U W e=>I.extBut b ob U (sb.extBut b ob W e);refine Cv (items:=items) hA hl hi dt ps (i+1) (wg kvs p.1 p.2) {s with heap:=D,toks:=s.toks+1} _ _ ?_ ?_ cr ?_ ?_ ?_
    ·obtain⟨oi,ei,ci,di⟩:=O;exact{oi,I.extBut it oi hi ei,ci,di}
    ·obtain⟨ol,el,cl⟩:=Y;exact{ol,keep l ol hl dt.symm el,cl}
    ·rw[hr];clear e0 hr h hz hd V O Y
     induction h2 with
     |nil=>exact .nil
     |cons q1 q2 ih=>
      refine .cons ?_ ih;obtain⟨⟨a',da,o',n',rfl,cx,dj,H,dc⟩,g,M⟩:=q1;exact{{a',da,o',n',rfl,keep a' o' (fun q=>g (by rw[q])) (fun q=>M (by rw[q])) cx,dj,H,dc},g,M}
    ·have hs:(wg kvs p.1 p.2).length<=kvs.length+1:=by
      unfold wg
      split
      ·rw[av];omega
      ·simp
     simp only[aR]at hz;omega
    ·intro h' tk cs k';exact h h' tk cs fun b ob U W e=>k' b ob U W (keep b ob U W e)
theorem JA{l:aa}{items:Array af}{k:Nat}{sl:Array (Option af)}{ps:List (K×af)}{Q:af->ak->Prop}(I:A.handled=none)(hx:s.heap.get? l=some {cls:=.type "list",dict:=none,data:=.seq items k,slots:=sl})
  (hp:aJ (Bw knd s.heap) ps items.toList) (M:ps.length<=aB)
  (h:∀h' tk,h'.DictOf knd s.heap.objs.size (ps.foldl (fun m p=>wg m p.1 p.2) [])->(∀b o,s.heap.get? b=some o->h'.get? b=some o)->Q (.ref s.heap.objs.size) {s with heap:=h',toks:=tk}) :
  aW (aZ prog w) A (yC (.type "dict") [.ref l]) Q E s:=by
 refine callType_codes (Q₁:=fun obj J=>obj=.ref s.heap.objs.size/\J={s with heap:=s.heap.push {cls:=.type "dict",data:=.dict #[]}}) F.kt_called_dict (F.kt_typeCall_dict_1 _) F.entry_dict_init (kt_code_dict_new _ ⟨rfl,rfl⟩) ?_;rintro obj J ⟨rfl,rfl⟩;have Z:(s.heap.push {cls:=.type "dict",data:=.dict #[]}).DictOf knd s.heap.objs.size []:=AY s.heap;have up:∀b o,s.heap.get? b=some o->(s.heap.push {cls:=.type "dict",data:=.dict #[]}).get? b=some o:=fun b o e=>aI _ e;have W:=aP hx;refine{Z.typeIs,F.args_dict_init_2 _ _,?_};unfold iE.«dict.__init__»;refine ao ?_;unfold Builtin.Dict.selfAndRest;refine ao (wpAny_notOrdered_dict Z.typeIs ?_);show aW _ _ (pure (s.heap.objs.size,[Value.ref l])) _ _ _;refine aU ?_;show aW _ _ (uZ "dict.__init__" s.heap.objs.size (.ref l) [] .none) _ _ _;unfold uZ;have D:({s with heap:=s.heap.push {cls:=.type "dict",data:=.dict #[]}}:ak).TypeIs (.ref l) "list":={_,up _ _ hx,rfl};refine ao (FL D ?_);rw[if_pos (by decide)];refine ao (Jz (s:={s with heap:=s.heap.push {cls:=.type "dict",data:=.dict #[]}}) (up _ _ hx) I fun h1 O k1=>?_);rw[if_pos (by rfl)];refine ao (Bx (ao ?_));have U:h1.IsList l items:={_,k1 _ _ (up _ _ hx),rfl,k,rfl};refine OM (s:={s with heap:=h1,toks:=O}) U ?_;have Y:s.heap.objs.size<h1.objs.size:=by
  obtain⟨o,_,_,e,_⟩:=Z;exact aP (k1 _ _ e)
 have V:∀b o,s.heap.get? b=some o->(h1.push {cls:=.type "list_iterator",data:=.fields #[.ref l,.int 0 0]}).get? b=some o:=fun b o e=>aI _ (k1 _ _ (up _ _ e));refine aU {Fh _ (by decide +kernel),?_};refine Cv (A:=A.in1) (knd:=knd) (items:=items) I (l:=l) (aQ W) (pY Y) (pY (p8 W Y)) ps 0 [] _ _ _ ?_ ?_ ?_ ?_ ?_ ?_
 ·exact{_,cz _ rfl,rfl,rfl}
 ·exact U.push _
 ·obtain⟨o,es,g,e,r⟩:=Z;exact{o,es,g,aI _ (k1 _ _ e),r}
 ·rw[rA];clear h M;generalize items.toList=xs at hp
  induction hp with
  |nil=>exact .nil
  |cons q1 q2 ih=>
   refine .cons ?_ ih;obtain⟨a,z,o,n,rfl,ho,hc,hd,hk⟩:=q1;have H:=aP ho;refine{{a,z,o,n,rfl,V _ _ ho,hc,hd,hk},fun q=>?_,fun q=>?_}
   ·injection q with q;exact aQ H q
   ·injection q with q;exact aQ (p8 H Y) q
 ·simpa using M
 ·intro h' tk hd k';refine{rfl,h h' tk hd fun b o e=>k' b o ?_ ?_ (V b o e)}
  ·exact aQ (aP e)
  ·exact aQ (p8 (aP e) Y)
end
end PySem
namespace L2
open PySem PySem.Spec PyProof.Rows
section
variable{X:Cx}
theorem x8{n:Nat}(h:n<2^64):n.log2<9000:=by
 by_cases z:n=0
 ·subst z;decide
 ·exact p8 ((Nat.log2_lt z).mpr h) (by decide)
def Li(_ j:Int):Prop:=0<j/\j<2^64
theorem wz:OpR X (iu .FloorDiv) (rI Li fun i j=>.int (i/j)):=opI fun i j _ _ _ _ _ hc q=>by
 have h1:(0:Int)<j:=hc.1;have h2:j<2^64:=hc.2;have Z:j.natAbs<2^64:=by omega
 exact Fz (by omega) (by rw[yD i (by omega)];exact q) (.inl (xw (x8 Z)))
def CDivM(_ j:Int):Prop:=j≠0/\j.natAbs<2^64
theorem F3:OpR X (iu .FloorDiv) (rI CDivM fun i j=>.int (i.fdiv j)):=opI fun _ _ _ _ _ _ _ hc q=>Fz hc.1 q (.inl (xw (x8 hc.2)))
theorem JB:OpR X (iu .Mult) (rI IntMulOk fun i j=>.int (i*j)):=opI fun _ _ _ _ _ _ _ hc q=>mul_int q hc
theorem mI:mB X (.builtin "isinstance") (fun xs H Q=>∃x n t b,xs=[x,.ty n]/\tR X.K H x t/\gN X.K t (.type n)=some b/\Q (.bl b) H):=by
 intro pins s σ H xs us Q I r h;obtain⟨x,n,t,b,rfl,ty,e,q⟩:=h;obtain⟨u,Y,rfl,Z,rt⟩:=vals2 r
 cases (show Y=Value.type n from rt);exact Ej I Z ty e fun tk=>{.bl b,H,I.tok _,rfl,q}
def vx(H:Hp):List (Key×V)->List V->Prop:=aJ fun (p:Key×V) x=>∃a,x=V.ref a/\H a=some (.tup [kV p.1,p.2])
theorem F4{P:aK}{w:bD}{H:Hp}{h:cB}(ok:HOk P w H h):∀{ps:List (Key×V)} {vs:List V} {us:List af},vx H ps vs->c5 vs us->∃qs:List (Key×af),KV ps qs/\aJ (Bw (gb P w) h) qs us:=by
 intro ps vs us r;unfold vx at r
 induction r generalizing us with
 |nil=>
  intro v
  cases v;exact{[],.nil,.nil}
 |@cons p x ps vs M J W=>
  intro v
  cases v with
  |cons r1 r2=>
   obtain⟨a,rfl,ha⟩:=M;obtain⟨qs,k1,k2⟩:=W r2
   cases r1;obtain⟨_,Y,U,o,ho,hc,n,hd⟩:=(show eO P w H h a (.tup [kV p.1,p.2]) from ok a _ ha);obtain⟨ku,O,rfl,rk,Z⟩:=vals2 U;exact{(p.1,O)::qs,.cons ⟨rfl,Z⟩ k1,.cons {a,ku,o,n,rfl,ho,hc,hd,wj rk} k2}
theorem JC{ps:List (Key×V)}{qs:List (Key×af)}(r:KV ps qs):∀{m:List (Key×V)} {n:List (Key×af)},KV m n->KV (ps.foldl (fun m p=>iY m p.1 p.2) m) (qs.foldl (fun m p=>wg m p.1 p.2) n):=by
 unfold KV at r
 induction r with
 |nil=>
  intro m n k;exact k
 |@cons p q ps qs h t Z=>
  intro m n k;obtain⟨h1,h2⟩:=h;rw[xj,xj,<- h1];exact Z (k.put p.1 h2)
theorem Ak(ps:List (Key×V)):∀m:List (Key×V),(ps.foldl (fun m p=>iY m p.1 p.2) m).length<=m.length+ps.length:=by
 induction ps with
 |nil=>
  intro m;exact ay _
 |cons p ps Z=>
  intro m;rw[xj,aR];have h1:=Z (iY m p.1 p.2);have h2:=mE m p.1 p.2;omega
theorem By(hc:X.calm=true):mB X (.type "dict") (fun xs H Q=>∃p vs ps,xs=[V.ref p]/\H p=some (.lst vs)/\vx H ps vs/\ps.length<=aB/\∀d,H d=none->Q (.ref d) (upd H d (.dK (ps.foldl (fun m p=>iY m p.1 p.2) [])))):=by
 intro pins s σ H xs us Q I r h;obtain⟨p,vs,ps,rfl,hp,O,Z,q⟩:=h;obtain⟨u,rfl,ru⟩:=vals1 r
 cases ru;obtain⟨_,Y,n,U,ho⟩:=(show eO X.prog X.w H s.heap p (.lst vs) from I.hok p _ hp);obtain⟨qs,k1,k2⟩:=F4 I.hok O U;refine JA (knd:=gb X.prog X.w) (I.ok.hd hc) ho k2 (by rw[<- k1.length];exact Z) fun h' tk hd kk=>?_;have W:=JC k1 (m:=[]) (n:=[]) .nil;have hl:=Ak ps [];refine{.ref s.heap.objs.size,_,I.laid (a:=s.heap.objs.size) (o:=.dK (ps.foldl (fun m p=>iY m p.1 p.2) [])) (t':=tk) kk (ay _) ?_,rfl,q _ (I.hok.fresh (ay _))};exact yP (by simp only[cw]at hl;omega) (beq_eq_false_iff_ne.mpr (gm (aQ I.big))) W hd
end
end L2
namespace Att
open PySem PySem.W PySem.Calls PyProof.Rows
theorem weight_mem:∀(xs:List WData) (x:WData),x∈xs->lJ x<=wA xs
 | [],_,h=>by cases h
 |y::r,x,h=>by
  unfold wA
  rcases ar.mp h with e|e
  ·subst e;omega
  ·have:=weight_mem r x e;omega
theorem bits_of_lay{ns:List Int}(h:WData.layableAll [WData.list (ns.map WData.int)]=true):∀n∈ns,fb n<=1048576:=fun n Z=>by
 have h1:(WData.list (ns.map WData.int)).layable=true:=(layW_cons h).1;unfold WData.layable at h1;have h2:lJ (WData.list (ns.map WData.int))<=2^20:=of_decide_eq_true (rq.mp h1).2;have V:=weight_mem (ns.map WData.int) (WData.int n) (cH.mpr ⟨n,Z,rfl⟩);have Y:lJ (WData.list (ns.map WData.int))=wA (ns.map WData.int):=by
  rw[lJ]
 have W:lJ (WData.int n)=fb n:=by
  rw[lJ];rfl
 have e:(2:Nat)^20=1048576:=by decide
 omega
theorem attach_callB{l:OpenLaw}{n:Nat}{q:aK}{W:List Str}{XP:(Str->Option af)->cB->Prop}{YP:bD->cB->Prop}{d:DefRec}
  (hn:l.most=some n) (H:d.params.defaults=[])
  (yC:∀(w:bD) (s₀ Z:ak) (mg D:Str->Option af) (I:aa) (a:aa) (vs:List af) (ns:List Int),
   Ground q W [] XP w s₀ mg D Z.heap->YP w Z.heap->mg d.name=some (.ref I) ->
   Z.heap.get? a=some {cls:=.type "list",data:=.seq vs.toArray}->dZ vs ns->ns.length<=n->(∀x∈ns,fb x<=1048576)->Z.gens=#[] ->
   pS (aZ l.prog w) xt (.call (.ref I) {[.ref a],[]}) (fun r s'=>r=.ok (.ret (.bool true))/\OldK Z.heap s'.heap/\s'.os=Z.os/\pP s'.gens) Z) :
  WalkO q W XP YP l.row.toRowW d [] (fun f vs=>Es f vs):=by
 intro w s₀ Z mg D G Y I o pm cd ce dV kV ho hd ca hD g hg args cp as O U ci z bW;obtain rfl:dV=.none:=Dflts.none hD H;obtain rfl:kV=.none:=Dflts.noKw hD;obtain⟨a,vs,ns,rfl,rfl,M,V,J⟩:=script_of hn O z;refine enter_call (nG (yC w s₀ Z mg D I a vs ns G Y g M V J (bits_of_lay U) hg) fun r s' hq=>?_);obtain⟨rfl,h2,h3,h4⟩:=hq;exact{.inl {.bool true,.bool true,[],rfl,fun _=>rfl,.bool true,post_true l _,fun _=>{List.Pairwise.nil,fun _ hm=>(nomatch hm)}},h2,h3,h4}
end Att
namespace L2
open PySem PySem.Spec PyProof.Rows
theorem walk_ofB{l:vc}{n k:Nat}{q:aK}{O:List Str}{XP:(Str->Option af)->cB->Prop}{YP:bD->cB->Prop}{d:DefRec}{K:Params->ae}{CX:bD->CXT}{sp:bD->Sp}{x:Str}
  (hn:l.most=some n) (bP:n<=aB) (D:d.params.defaults=[]) (hr:cX k xt)
  (hY:∀(w:bD) (h:cB),YP w h->(K w.params).In h)
  (F:∀(w:bD) (mg:Str->Option af) (I:aa) (h:cB),(K w.params).In h->h.Ns bA mg->mg d.name=some (.ref I) ->
   ∃fd:bU,(∀(s:ak) (u:af),uz s fd {[u],[]} [(x,u)]) /\
    ∀base:cB,(K w.params).In base->base.Ns bA mg->bC l.prog w (K w.params) mg base (CX w) k I fd [x] (sp w))
  (z:∀(w:bD) (H:Hp) (a:aa) (ns:List Int),ns.length<=n->(∀x∈ns,fb x<=1048576)->SqL (K w.params) H a (ns.map V.int)->sp w [.ref a] H (fun v _=>v=.bl true) fun _ _ _=>False)
  (bI:∀(w:bD) (H:Hp) (s:ak) (e:af) (s':ak),CX w [] H s (fun _ _ _=>False) e s'->False) :
  IW q O XP YP l.row.toRowW d [] (fun f vs=>Es f vs):=by
 refine Att.attach_callB hn D fun w s₀ J mg mb I a vs ns G Y bH M U Z W hg=>?_;have KX:=hY w _ Y;obtain⟨fd,hb,hF⟩:=F w mg I _ KX G.T.g bH;exact FU KX G.T.g G.T.b G.T.builtins G.T.nolimit hg M U (dA Z bP) hr hF hb (fun H hO hS=>z w H a ns Z W hS) fun H e s'=>bI w H J e s'
end L2
namespace PySem
open SeqAt MeetsSeq MeetsSeq2 MeetsSeq3 SeqRoads2
open AutoSeq1 (wpAny_loadPart')
def m7(prog:aK)(w:bD)(A:bX)(s:ak)(y x:af):Prop:=
 ∀(E:af->ak->Prop) (Q:Bool->ak->Prop),Q true s->aW (aZ prog w) A (eqBool y x) Q E s
def RcIn(prog:aK)(w:bD)(A:bX)(s:ak)(y x:af):Prop:=
 ∀(E:af->ak->Prop) (Q:af->ak->Prop),Q (.bool true) s->aW (aZ prog w) A (pT .Eq y x) Q E s
section
variable{prog:aK}{w:bD}{A:bX}{s:ak}
theorem m7.of_at{y x:af}(h:EqAt A s y x true):m7 prog w A s y x:=fun E Q q=>h prog w E Q q
theorem m7.self(v:af):m7 prog w A s v v:=m7.of_at (EqAt.same v)
theorem m7.refs{l b:aa}(h:RcIn prog w A s (.ref l) (.ref b)):m7 prog w A s (.ref l) (.ref b):=by
 by_cases e:l=b
 ·rw[e];exact m7.self _
 ·intro E Q q;unfold eqBool;refine e8 (wpAny_ite_split (fun z=>?_) (fun _=>?_))
  ·exact absurd (by have Z:=eq_of_beq z;injection Z) e
  ·exact ao (h E _ (i5 q))
theorem JD(l b:aa)(xs ys:Array af)(n m:Nat)(dd M:Option aa)(sl sm:Array (Option af))(hsz:xs.size=ys.size):∀k i:Nat,xs.size-i=k ->
  MeetsIn prog w (iE.«list.__eq__.loop» {[.ref l,.ref b,tM i,tM 2],[]}) (fun A R s=>
   s.heap.get? l=some {cls:=.type "list",dict:=dd,data:=.seq xs n,slots:=sl}/\s.heap.get? b=some {cls:=.type "list",dict:=M,data:=.seq ys m,slots:=sm} /\
   (∀j (h1:j<xs.size) (h2:j<ys.size),m7 prog w A.in1 s xs[j] ys[j])/\R (.ok (.ret (.bool true))) s):=by
 intro k
 induction k with
 |zero=>
  intro i hk A R s q;obtain⟨hp,g,d,tk,os⟩:=s;obtain⟨Y,Z,W,V⟩:=q;have a1:xs[((i:Nat):Int).toNat]?=none:=by simp;omega
  have a2:ys[((i:Nat):Int).toNat]?=none:=by simp;omega
  wp_walk using dy Y,dy Z
  rw[a1,a2]
  wp_walk using dy Y,dy Z
  show R (.ok (.ret (.bool (xs.size==ys.size)))) _;rw[hsz,beq_self_eq_true];exact V
 |succ k J=>
  intro i hk A R s q;obtain⟨hp,g,d,tk,os⟩:=s;obtain⟨Y,Z,W,V⟩:=q;have U:i<xs.size:=by omega
  have O:i<ys.size:=by omega
  have a1:xs[((i:Nat):Int).toNat]?=some xs[i]:=by simp[U]
  have a2:ys[((i:Nat):Int).toNat]?=some ys[i]:=by simp[O]
  have e1:((i:Int)+1)=((i+1:Nat):Int):=by push_cast;rfl
  wp_walk using dy Y,dy Z
  rw[a1,a2];refine ao (W i U O _ _ ?_)
  wp_walk
  rw[e1];refine{plainId_quiet plain_eq_loop _,rV entry_eq_loop ?_};rw[AZ plain_eq_loop _];exact J (i+1) (by omega) A R _ ⟨Y,Z,W,V⟩
theorem JE(l b:aa)(xs ys:Array af)(n m:Nat)(dd Z:Option aa)(sl sm:Array (Option af))(hsz:xs.size=ys.size) :
  MeetsIn prog w (iE.«list.__eq__» {[.ref l,.ref b],[]}) (fun A R s=>
   s.heap.get? l=some {cls:=.type "list",dict:=dd,data:=.seq xs n,slots:=sl}/\s.heap.get? b=some {cls:=.type "list",dict:=Z,data:=.seq ys m,slots:=sm} /\
   (∀j (h1:j<xs.size) (h2:j<ys.size),m7 prog w A.in1 s xs[j] ys[j])/\R (.ok (.ret (.bool true))) s):=by
 intro A R s q;obtain⟨hp,g,d,tk,os⟩:=s;obtain⟨W,Y,V,U⟩:=q;have f1:=AutoSeq1.sub_list_list;have O:¬(xs.size != ys.size)=true:=by simp[hsz]
 wp_walk using dy W,dy Y
 refine{plainId_quiet plain_eq_loop _,rV entry_eq_loop ?_};rw[AZ plain_eq_loop _];exact JD l b xs ys n m dd Z sl sm hsz _ 0 rfl A R _ ⟨W,Y,V,U⟩
theorem RcIn.lists{l b:aa}{xs ys:Array af}(hl:s.heap.IsList l xs)(hb:s.heap.IsList b ys)(hsz:xs.size=ys.size)(hu:A.units<dY)
  (V:∀j (h1:j<xs.size) (h2:j<ys.size),m7 prog w A.in1 s xs[j] ys[j]):RcIn prog w A s (.ref l) (.ref b):=fun E Q q=>by
 obtain⟨⟨c1,dd,t1,sl⟩,Z,rfl,n,rfl⟩:=id hl;obtain⟨⟨c2,W,U,sm⟩,Y,rfl,m,rfl⟩:=id hb;refine A0 (op:=.Eq) {_,Z,rfl} {_,Y,rfl} F.slot_list_eq (Gf F.slot_list_eq {_,Z,rfl} F.entry_list_eq (F.args_list_eq_2 _ _) (JE l b xs ys n m dd W sl sm hsz) {Z,Y,V,?_}) hu;exact{fun z=>(nomatch z),q}
variable{K:Type}[DecidableEq K]{knd:KeyKind prog w K}
theorem pairs_at{es:List DictEntry}{kvs:List (K×af)}(h:Pairs knd es kvs):∀{i:Nat} {e:DictEntry},es[i]?=some e->∃Z,kvs[i]?=some Z/\knd.is Z.1 e.key=true/\e.val=Z.2:=by
 induction h with
 |nil=>
  intro i e q;simp at q
 |cons a b _ Y=>
  intro i e q
  cases i with
  |zero=>
   simp at q;subst q;exact{_,rfl,a,b}
  |succ i=>
   obtain⟨Z,z⟩:=Y (i:=i) (by simpa using q);exact{Z,by simpa using z.1,z.2}
theorem Gh{nm:String}{d b:aa}{kvs kws:List (K×af)}{Q:Bool->ak->Prop}{E:af->ak->Prop}(hd:(d==gc)=false)(hb:(b==gc)=false)(J:s.heap.DictOf knd d kvs)(U:s.heap.DictOf knd b kws)
  (hl:kvs.length=kws.length) (he:∀Z∈kvs,∃W,pU kws Z.1=some W/\m7 prog w A s Z.2 W) (q:Q true s):aW (aZ prog w) A (vy nm d b) Q E s:=by
 obtain⟨o1,es,ep,h1,x1,t1,k1,M,n1⟩:=id J;obtain⟨o2,fs,fp,h2,x2,V,k2,p2,n2⟩:=id U;have z1:es.size=kvs.length:=by rw[<- M.length,gB]
 have z2:fs.size=kws.length:=by rw[<- p2.length,gB]
 unfold vy;unfold Builtin.Dict.showsAll;rw[if_neg (by rw[hd];exact bL),if_neg (by rw[hb];exact bL)];refine ao (aU (ao (aU ?_)));refine ao (pV h1 t1 (ao (pV h2 V ?_)));rw[if_neg (by rw[z1,z2,hl];simp)];refine ao (wpAny_dictEpoch h1 t1 (ao ?_));rw[Lj];simp only[Ll,Nat.sub_zero,Gi,Nat.div_one];refine lH _ (fun rest r s'=>s'=s/\r.1=none/\∃i,rest=List.range' i (es.size-i)/\i<=es.size) _ ?_ ?_ _ _ {rfl,rfl,0,by simp,bV _}
 ·rintro x rest ⟨r1,r2⟩ s' ⟨rfl,e1,i,hr,hi⟩;have lt:i<es.size:=by
   rcases jf i es.size with z|z
   ·exact z
   ·rw[Nat.sub_eq_zero_of_le z]at hr;simp at hr
  obtain⟨rfl,Y⟩:x=i/\rest=List.range' (i+1) (es.size-(i+1)):=by
   rw[show es.size-i=(es.size-(i+1))+1 by omega,List.range'_succ]at hr;injection hr with a1 a2;exact⟨a1,a2⟩
  obtain⟨Z,H,O,y3⟩:=pairs_at M (i:=x) (e:=es[x]) (by simp[lt]);obtain⟨kk,y4,I⟩:=k1 es[x] (Array.getElem_mem lt);have y6:kk=Z.1:=knd.inj _ _ _ y4 O;subst y6;obtain⟨W,g1,g2⟩:=he Z (cA H);obtain⟨o3,fs',D,a1,_,a2,a3,hf⟩:=U.mapOf;rw[h2]at a1
  cases a1;rw[V]at a2
  cases a2;rw[<- hf Z.1,findBy_of_findIdx?]at g1;refine ao (pV h1 t1 ?_);rw[Array.getElem?_eq_getElem lt];dsimp only;refine ao (e8 (ao ?_));rw[I];refine wpAny_dictFind_of O h2 V k2 ?_
  cases hj:fs.findIdx? fun e=>knd.is Z.1 e.key with
  |none=>
   rw[hj]at g1
   cases g1
  |some j=>
   rw[hj]at g1;dsimp only at g1 |-;refine ao (pV h2 V ?_)
   cases hx:fs[j]? with
   |none=>
    simp[hx]at g1
   |some g=>
    have g3:g.val=W:=by simpa[hx] using g1
    dsimp only;refine e8 ?_;rw[y3,g3];refine g2 _ _ ?_;rw[if_neg (by decide)];refine ao (wpAny_dictEpoch h1 t1 ?_);rw[if_neg (by simp)];exact aU {rfl,rfl,x+1,Y,lt}
 ·rintro⟨r1,r2⟩ s' ⟨rfl,e1,_⟩;have e1:r1=none:=e1;subst e1;exact aU q
theorem Et(d b:aa)(hd:(d==gc)=false)(hb:(b==gc)=false) :
  MeetsIn prog w (iE.«dict.__eq__» {[.ref d,.ref b],[]}) (fun A R s=>∃kvs kws,s.heap.DictOf knd d kvs/\s.heap.DictOf knd b kws/\kvs.length=kws.length /\
   (∀Z∈kvs,∃W,pU kws Z.1=some W/\m7 prog w A.in1 s Z.2 W)/\R (.ok (.ret (.bool true))) s):=
 .of_wp fun A R s h=>by
  obtain⟨kvs,kws,V,Y,hl,U,q⟩:=h;unfold iE.«dict.__eq__»;show aW _ _ (tY "__eq__" {[.ref d,.ref b],[]} >>= _) _ _ s;refine ao ?_;unfold tY;unfold Builtin.Dict.notOrdered;rw[if_neg (by decide)];refine ao (aU ?_);show aW _ _ (pure (Value.ref d,Value.ref b)) _ _ s;refine aU ?_;dsimp only;refine ao (wpAny_isInstance Y.typeIs isSubtype_dict_dict ?_);rw[if_neg (by decide)];refine ao (aU (ao (aU (ao (Gh hd hb V Y hl U ?_)))));exact aU {_,rfl,q}
theorem RcIn.dicts{d b:aa}{kvs kws:List (K×af)}(hd:(d==gc)=false)(hb:(b==gc)=false)(Z:s.heap.DictOf knd d kvs)(W:s.heap.DictOf knd b kws)(hl:kvs.length=kws.length)(hu:A.units<dY)
  (U:∀Y∈kvs,∃V,pU kws Y.1=some V/\m7 prog w A.in1 s Y.2 V):RcIn prog w A s (.ref d) (.ref b):=fun E Q q=>
 A0 (op:=.Eq) Z.typeIs W.typeIs F.slot_dict_eq (Gf F.slot_dict_eq Z.typeIs F.entry_dict_eq (F.args_dict_eq_2 _ _) (Et (knd:=knd) d b hd hb) {kvs,kws,Z,W,hl,U,{fun z=>(nomatch z),q}}) hu
end
end PySem
namespace L2
open PySem PySem.Spec PyProof.Rows PySem.SeqAt
def sc0:V->Prop
 |.int _=>True
 |.str _=>True
 |.bl _=>True
 |.non=>True
 |_=>False
def TEq(H:Hp):Nat->V->V->Prop
 |0,x,y=>sc0 x/\x=y
 |n+1,x,y=>(sc0 x/\x=y)\/(∃p q xs ys,x=.ref p/\y=.ref q/\H p=some (.lst xs)/\H q=some (.lst ys)/\aJ (TEq H n) xs ys) \/
   ∃p q xs ys,x=.ref p/\y=.ref q/\H p=some (.tup xs)/\H q=some (.tup ys)/\aJ (TEq H n) xs ys
def DEq(H:Hp):Nat->V->V->Prop
 |0,x,y=>∃n,n<=20/\TEq H n x y
 |n+1,x,y=>(∃n,n<=20/\TEq H n x y)\/(∃p q xs ys,x=.ref p/\y=.ref q/\H p=some (.lst xs)/\H q=some (.lst ys)/\aJ (DEq H n) xs ys) \/
   ∃p q kvs kws,x=.ref p/\y=.ref q/\H p=some (.dK kvs)/\H q=some (.dK kws)/\aJ (fun (a b:Key×V)=>a.1=b.1/\DEq H n a.2 b.2) kvs kws
section
variable{P:aK}{w:bD}{H:Hp}{s:ak}
theorem nI{R:V->V->Prop}:∀{xs ys:List V} {us vs:List af},aJ R xs ys->c5 xs us->c5 ys vs->us.length=vs.length/\∀j (h1:j<us.length) (h2:j<vs.length),∃x y,R x y/\RelV x us[j]/\RelV y vs[j]:=by
 intro xs ys us vs p
 induction p generalizing us vs with
 |nil=>
  intro a b
  cases a
  cases b;exact{rfl,fun j h1=>absurd h1 (gD _)}
 |cons r rs Y=>
  intro a b
  cases a with
  |cons a Z=>
  cases b with
  |cons b bs=>
  obtain⟨e,z⟩:=Y Z bs;refine{by rw[aR,aR,e],fun j h1 h2=>?_}
  cases j with
  |zero=>exact{_,_,r,a,b}
  |succ j=>exact z j (qc h1) (qc h2)
theorem Cw{A:bX}{x:V}{u v:af}(h:sc0 x)(ru:RelV x u)(Z:RelV x v):EqAt A s u v true:=by
 cases x with
 |non=>cases ru;cases Z;exact EqAt.same _
 |bl b=>cases ru;cases Z;exact EqAt.same _
 |int i=>
  obtain⟨t,rfl⟩:=ru;obtain⟨t',rfl⟩:=Z;have z:=EqAt.int_int (A:=A) (s:=s) i t i t';rw[beq_self_eq_true]at z;exact z
 |str i=>
  obtain⟨t,rfl⟩:=ru;obtain⟨t',rfl⟩:=Z;have z:=EqAt.str_str (A:=A) (s:=s) i t i t';rw[beq_self_eq_true]at z;exact z
 |byt b=>exact h.elim
 |flt b=>exact h.elim
 |ref a=>exact h.elim
 |ty a=>exact h.elim
theorem iq(ok:HOk P w H s.heap){p:aa}{xs:List V}(h:H p=some (.lst xs)):∃us:List af,c5 xs us/\s.heap.IsList p us.toArray:=by
 obtain⟨_,us,n,r,e⟩:=(show eO P w H s.heap p (.lst xs) from ok p _ h);exact{us,r,_,e,rfl,n,rfl}
theorem gv(ok:HOk P w H s.heap){p:aa}{xs:List V}(h:H p=some (.tup xs)):∃us:List af,c5 xs us/\s.heap.IsTuple p us.toArray:=by
 obtain⟨_,us,r,o,e,c,n,d⟩:=(show eO P w H s.heap p (.tup xs) from ok p _ h);exact⟨us,r,o,e,c,n,d⟩
theorem sN(n:Nat):((jz n).all fun _=>true)=true:=by simp
theorem Al(ok:HOk P w H s.heap){R:V->V->Prop}{A:bX}{p q:aa}{xs ys:List V}(hu:A.units<dY)(h1:H p=some (.lst xs))(h2:H q=some (.lst ys))(r:aJ R xs ys)
  (Z:∀x y u v,R x y->RelV x u->RelV y v->EqAt A.in1 s u v true):RcAt A s (.ref p) (.ref q) true:=by
 obtain⟨us,r1,i1⟩:=iq ok h1;obtain⟨vs,r2,i2⟩:=iq ok h2;obtain⟨e,z⟩:=nI r r1 r2;have k:=RcAt.lists (e:=fun _=>true) i1 i2 (by simpa using e) hu (fun j a b=>by
  obtain⟨x,y,Y,U,W⟩:=z j (by simpa using a) (by simpa using b);simpa using Z _ _ _ _ Y U W)
 rw[sN]at k;exact k
theorem Cy(ok:HOk P w H s.heap){R:V->V->Prop}{A:bX}{p q:aa}{xs ys:List V}(hu:A.units<dY)(h1:H p=some (.tup xs))(h2:H q=some (.tup ys))(r:aJ R xs ys)
  (Z:∀x y u v,R x y->RelV x u->RelV y v->EqAt A.in1 s u v true):RcAt A s (.ref p) (.ref q) true:=by
 obtain⟨us,r1,i1⟩:=gv ok h1;obtain⟨vs,r2,i2⟩:=gv ok h2;obtain⟨e,z⟩:=nI r r1 r2;have k:=RcAt.tuples (e:=fun _=>true) i1 i2 hu (fun j a b=>by
  obtain⟨x,y,Y,U,W⟩:=z j (by simpa using a) (by simpa using b);simpa using Z _ _ _ _ Y U W)
 rw[sN,Nd,aG,aG,e,beq_self_eq_true]at k;exact k
theorem EqAt.of_rc{A:bX}{l b:aa}(h:RcAt A s (.ref l) (.ref b) true):EqAt A s (.ref l) (.ref b) true:=by
 by_cases e:l=b
 ·rw[e];exact EqAt.same _
 ·exact EqAt.of_refs e h
theorem qe(ok:HOk P w H s.heap):∀{n:Nat} {A:bX} {x y:V} {u v:af},A.units+n<dY->TEq H n x y->RelV x u->RelV y v->EqAt A s u v true
 |0,A,x,y,u,v,hu,h,ru,Z=>by
  obtain⟨h1,rfl⟩:=h;exact Cw h1 ru Z
 |n+1,A,x,y,u,v,hu,h,ru,Z=>by
  have Y:A.in1.units+n<dY:=by
   show A.units+1+n<dY;omega
  rcases h with⟨h1,rfl⟩|⟨p,q,xs,ys,rfl,rfl,h1,h2,r⟩|⟨p,q,xs,ys,rfl,rfl,h1,h2,r⟩
  ·exact Cw h1 ru Z
  ·cases ru
   cases Z;exact EqAt.of_rc (Al ok (by omega) h1 h2 r fun _ _ _ _ z a b=>qe ok Y z a b)
  ·cases ru
   cases Z;exact EqAt.of_rc (Cy ok (by omega) h1 h2 r fun _ _ _ _ z a b=>qe ok Y z a b)
theorem wB(ok:HOk P w H s.heap){R:V->V->Prop}{A:bX}{p q:aa}{xs ys:List V}(hu:A.units<dY)(h1:H p=some (.lst xs))(h2:H q=some (.lst ys))(r:aJ R xs ys)
  (Z:∀x y u v,R x y->RelV x u->RelV y v->m7 P w A.in1 s u v):RcIn P w A s (.ref p) (.ref q):=by
 obtain⟨us,r1,i1⟩:=iq ok h1;obtain⟨vs,r2,i2⟩:=iq ok h2;obtain⟨e,z⟩:=nI r r1 r2;exact RcIn.lists i1 i2 (by simpa using e) hu (fun j a b=>by
  obtain⟨x,y,Y,U,W⟩:=z j (by simpa using a) (by simpa using b);simpa using Z _ _ _ _ Y U W)
theorem JF{κ:Type}{R:κ×V->κ×V->Prop}:∀{kvs kws:List (κ×V)} {us vs:List (κ×af)},aJ R kvs kws->KV kvs us->KV kws vs->us.length=vs.length/\∀(i:Nat) (q:κ×af),us[i]?=some q->∃Z a b,vs[i]?=some Z/\R a b/\a.1=q.1/\b.1=Z.1/\RelV a.2 q.2/\RelV b.2 Z.2:=by
 intro kvs kws us vs p
 induction p generalizing us vs with
 |nil=>
  intro a b
  cases a
  cases b;exact{rfl,fun i q h=>by simp at h}
 |cons r rs W=>
  intro a b
  cases a with
  |cons a Y=>
  cases b with
  |cons b bs=>
  obtain⟨e,z⟩:=W Y bs;refine{by rw[aR,aR,e],fun i q h=>?_}
  cases i with
  |zero=>
   simp at h;subst h;exact{_,_,_,rfl,r,a.1,b.1,a.2,b.2}
  |succ i=>
   obtain⟨Z,x,y,h1,h2⟩:=z i q (by simpa using h);exact{Z,x,y,by simpa using h1,h2}
theorem wC(ok:HOk P w H s.heap){R:V->V->Prop}{A:bX}{p q:aa}{kvs kws:List (Key×V)}(hu:A.units<dY)(h1:H p=some (.dK kvs))(h2:H q=some (.dK kws))(r:aJ (fun (a b:Key×V)=>a.1=b.1/\R a.2 b.2) kvs kws)
  (g:∀x y u v,R x y->RelV x u->RelV y v->m7 P w A.in1 s u v):RcIn P w A s (.ref p) (.ref q):=by
 obtain⟨_,n1,us,k1,O⟩:=(show eO P w H s.heap p (.dK kvs) from ok p _ h1);obtain⟨_,n2,vs,k2,U⟩:=(show eO P w H s.heap q (.dK kws) from ok q _ h2);obtain⟨e,z⟩:=JF r k1 k2;refine RcIn.dicts n1 n2 O U e hu fun Y Z=>?_;obtain⟨i,hi⟩:=dH Z;obtain⟨W,a,b,g1,⟨D,g3⟩,I,g5,M,g7⟩:=z i Y hi;obtain⟨_,_,_,_,_,_,_,_,nd⟩:=id U;have J:vs[i]?=some (Y.1,W.2):=by
  rw[g1,<- I,D,g5]
 exact{W.2,valueAt_of_get nd J,g _ _ _ _ g3 M g7}
theorem yY(ok:HOk P w H s.heap):∀{n:Nat} {A:bX} {x y:V} {u v:af},A.units+n+20<dY->DEq H n x y->RelV x u->RelV y v->m7 P w A s u v
 |0,A,x,y,u,v,hu,h,ru,Z=>by
  obtain⟨m,h0,h1⟩:=h;exact m7.of_at (qe ok (by omega) h1 ru Z)
 |n+1,A,x,y,u,v,hu,h,ru,Z=>by
  have Y:A.in1.units+n+20<dY:=by
   show A.units+1+n+20<dY;omega
  rcases h with⟨m,h0,h1⟩|⟨p,q,xs,ys,rfl,rfl,h1,h2,r⟩|⟨p,q,kvs,kws,rfl,rfl,h1,h2,r⟩
  ·exact m7.of_at (qe ok (by omega) h1 ru Z)
  ·cases ru
   cases Z;exact m7.refs (wB ok (by omega) h1 h2 r fun _ _ _ _ z a b=>yY ok Y z a b)
  ·cases ru
   cases Z;exact m7.refs (wC ok (by omega) h1 h2 r fun _ _ _ _ z a b=>yY ok Y z a b)
end
section
variable{X:Cx}
theorem Nf(hu:X.A.units+50<dY):OpR X (cN .Eq) (fun x y H Q=>∃n p q,n<=20/\x=.ref p/\y=.ref q/\DEq H n x y/\Q (.bl true) H):=by
 intro pins s σ H x y v u Q I rx g h;obtain⟨n,p,q,hn,rfl,rfl,d,k⟩:=h
 cases rx
 cases g;have fin:EP X pins σ Q (.bool true) s:={.bl true,H,I,rfl,k};have Z:X.A.units<dY:=by omega
 have U:RcIn X.prog X.w X.A s (.ref p) (.ref q):=by
  have V:∀m,m<=20->X.A.in1.units+m<dY:=fun m hm=>by
   show X.A.units+1+m<dY;omega
  have D:∀m,m<=20->TEq H m (.ref p) (.ref q)->RcIn X.prog X.w X.A s (.ref p) (.ref q):=fun m hm t=>by
   cases m with
   |zero=>exact t.1.elim
   |succ m=>
    rcases t with⟨h1,_⟩|⟨O,M,xs,ys,e1,W,h1,h2,r⟩|⟨O,M,xs,ys,e1,W,h1,h2,r⟩
    ·exact h1.elim
    ·cases e1
     cases W;intro E J k';exact Al I.hok Z h1 h2 r (fun _ _ _ _ z a b=>qe I.hok (V m (by omega)) z a b) X.prog X.w E J k'
    ·cases e1
     cases W;intro E J k';exact Cy I.hok Z h1 h2 r (fun _ _ _ _ z a b=>qe I.hok (V m (by omega)) z a b) X.prog X.w E J k'
  cases n with
  |zero=>
   obtain⟨m,hm,t⟩:=d;exact D m hm t
  |succ n=>
   have Y:X.A.in1.units+n+20<dY:=by
    show X.A.units+1+n+20<dY;omega
   rcases d with⟨m,hm,t⟩|⟨O,M,xs,ys,e1,W,h1,h2,r⟩|⟨O,M,kvs,kws,e1,W,h1,h2,r⟩
   ·exact D m hm t
   ·cases e1
    cases W;exact wB I.hok Z h1 h2 r fun _ _ _ _ z a b=>yY I.hok Y z a b
   ·cases e1
    cases W;exact wC I.hok Z h1 h2 r fun _ _ _ _ z a b=>yY I.hok Y z a b
 exact U _ _ fin
theorem Gj(hu:X.A.units+50<dY):OpR X (cN .NotEq) (fun x y H Q=>∃n p q,n<=20/\x=.ref p/\y=.ref q/\TEq H n x y/\Q (.bl false) H):=by
 intro pins s σ H x y v u Q I V Z h;obtain⟨n,p,q,D,rfl,rfl,d,k⟩:=h
 cases V
 cases Z;have fin:EP X pins σ Q (.bool false) s:={.bl false,H,I,rfl,k};have Y:X.A.units<dY:=by omega
 cases n with
 |zero=>exact d.1.elim
 |succ m=>
  have W:X.A.in1.units+m<dY:=by
   show X.A.units+1+m<dY;omega
  rcases d with⟨h1,_⟩|⟨M,J,xs,ys,e1,U,h1,h2,r⟩|⟨M,J,xs,ys,e1,U,h1,h2,r⟩
  ·exact h1.elim
  ·cases e1
   cases U;obtain⟨us,r1,i1⟩:=iq I.hok h1;obtain⟨vs,r2,i2⟩:=iq I.hok h2;obtain⟨e,z⟩:=nI r r1 r2;have k:=RcNeAt.lists (A:=X.A) (e:=fun _=>true) i1 i2 (by simpa using e) Y (fun j a b=>by
    obtain⟨x,y,O,V,Z⟩:=z j (by simpa using a) (by simpa using b);simpa using qe I.hok W O V Z)
   rw[sN]at k;exact k X.prog X.w _ _ fin
  ·cases e1
   cases U;obtain⟨us,r1,i1⟩:=gv I.hok h1;obtain⟨vs,r2,i2⟩:=gv I.hok h2;obtain⟨e,z⟩:=nI r r1 r2;have k:=RcNeAt.tuples (A:=X.A) (e:=fun _=>true) i1 i2 Y (fun j a b=>by
    obtain⟨x,y,O,V,Z⟩:=z j (by simpa using a) (by simpa using b);simpa using qe I.hok W O V Z)
   rw[sN,Nd,aG,aG,e,beq_self_eq_true]at k;exact k X.prog X.w _ _ fin
theorem Eu{A:bX}{k:Nat}(hr:cX k A):A.units+50<dY:=by
 have:=hr.un;omega
end
end L2
namespace PySem
open Sem (wp)
section
variable{prog:aK}{w:bD}{A:bX}{E:af->ak->Prop}{s:ak}
end
section
variable{prog:aK}{w:bD}{A:bX}{R:MU->ak->Prop}{I:aa}{fp wr:List aa}{n:Nat}{P:Nat->af->Prop}{St:Nat->cB->Prop}{G:cB->Prop}
end
section
variable{prog:aK}{w:bD}{A:bX}{E:af->ak->Prop}{s:ak}
end
section
variable{prog:aK}{w:bD}{K:Type}[DecidableEq K]{knd:HeapKind prog w K}{A:bX}{E:af->ak->Prop}{s:ak}
end
section
variable{prog:aK}{w:bD}{A:bX}{E:af->ak->Prop}{s:ak}
end
end PySem
namespace HT
theorem Bz:∀a:List Int,lexLt a a=false
 | []=>rfl
 |x::r=>by rw[lexLt_cons,if_pos rfl];exact Bz r
theorem lx_trans:∀{a b c:List Int},lexLt a b=true->lexLt b c=true->lexLt a c=true
 | [],[],_,h,_=>by cases h
 | [],_::_,[],_,h=>by cases h
 | [],_::_,_::_,_,_=>rfl
 |_::_,[],_,h,_=>by cases h
 |_::_,_::_,[],_,h=>by cases h
 |x::a,y::b,z::c,h,k=>by
  rw[lexLt_cons]at h k |-
  by_cases e:x=y
  ·subst e;rw[if_pos rfl]at h
   by_cases f:x=z
   ·subst f;rw[if_pos rfl]at k |-;exact lx_trans h k
   ·rw[if_neg f]at k |-;exact k
  ·rw[if_neg e]at h;have h:=of_decide_eq_true h
   by_cases f:y=z
   ·subst f;rw[if_neg e];exact decide_eq_true h
   ·rw[if_neg f]at k;have k:=of_decide_eq_true k;rw[if_neg (by omega)];exact decide_eq_true (by omega)
theorem sO:∀{a b:List Int},lexLt a b=false->lexLt b a=false->a=b
 | [],[],_,_=>rfl
 | [],_::_,h,_=>by cases h
 |_::_,[],_,h=>by cases h
 |x::a,y::b,h,k=>by
  rw[lexLt_cons]at h k
  by_cases e:x=y
  ·subst e;rw[if_pos rfl]at h k;rw[sO h k]
  ·rw[if_neg e]at h;rw[if_neg (fun z=>e z.symm)]at k;have h:=of_decide_eq_false h;have k:=of_decide_eq_false k;exact absurd (by omega) e
theorem lx_asym{a b:List Int}(h:lexLt a b=true):lexLt b a=false:=by
 cases e:lexLt b a with
 |false=>rfl
 |true=>
  have z:=lx_trans h e;rw[Bz]at z
  cases z
theorem lx_of_not{a b:List Int}(h:lexLt a b=false)(n:a≠b):lexLt b a=true:=by
 cases e:lexLt b a with
 |true=>rfl
 |false=>exact absurd (sO h e) n
open PySem PyProof.Rows
open PySem.SeqAt
open PySem.AutoSeq1 (wpAny_loadPart')
open PySem.MeetsSeq PySem.MeetsSeq2 PySem.MeetsSeq3
theorem JG(l b:aa)(xs ys:Array af)(n m:Nat)(dd de:Option aa)(sl sm:Array (Option af))(ns ms:List Int)(hi:dZ xs.toList ns)(hj:dZ ys.toList ms) :
  Meets (iE.«tuple.__gt__» {[.ref l,.ref b],[]})
   (fun _ R s=>s.heap.get? l=some {cls:=.type "tuple",dict:=dd,data:=.seq xs n,slots:=sl}/\s.heap.get? b=some {cls:=.type "tuple",dict:=de,data:=.seq ys m,slots:=sm}/\R (.ok (.ret (.bool (lexLt ms ns)))) s):=
 .of_wp fun prog w A R s h=>by
  obtain⟨hp,g,d,tk,os⟩:=s;obtain⟨hl,hb,h⟩:=h;have f2:=ja;have z1:xs.size=ns.length:=by rw[<- hi.length];simp
  have z2:ys.size=ms.length:=by rw[<- hj.length];simp
  wp_walk using dy hl,dy hb,lH _ (fun rest b s'=>b.1=none/\s'=⟨hp,g,d,tk,os⟩/\∃(vs H:List af) (W Y:List Int),rest=vs.zip H /\
   dZ vs W/\dZ H Y/\W.length+ys.size=Y.length+xs.size/\R (.ok (.ret (.bool (lexLt Y W)))) ⟨hp,g,d,tk,os⟩) _
  case turn=>
   rintro⟨y,x⟩ rest b s' ⟨M,rfl,vs,H,W,Y,V,hv,hw,Z,O⟩
   cases hv with
   |nil=>rw[uB]at V;cases V
   |cons a t hv=>
    cases hw with
    |nil=>rw[tG]at V;cases V
    |cons c u hw=>
     rw[e7]at V;injection V with bI J;injection bI with hy hx;subst hy hx;rw[lexLt_cons]at O;simp only[aR]at Z;obtain⟨e,he,U⟩:=vZ A.in1 ⟨hp,g,d,tk,os⟩ a t c u;refine ao (he prog w _ _ ?_)
     cases e with
     |true=>
      rw[if_pos (U.mp rfl).symm]at O
      wp_walk
      exact{rfl,rfl,_,_,_,_,J,hv,hw,by omega,O}
     |false=>
      rw[if_neg (fun q=>absurd (U.mpr q.symm) bL)]at O;have z:∀(E:af->ak->Prop) (Q:af->ak->Prop),Q (.bool (decide (a>c))) ⟨hp,g,d,tk,os⟩->aW (aZ prog w) A.in1 (pT .Gt (.int a t) (.int c u)) Q E ⟨hp,g,d,tk,os⟩:=fun E Q q=>
       (PyProof.Rows.gt_int q:aW (aZ prog w) A.in1 (cN .Gt (.int a t) (.int c u)) Q E _)
      wp_walk using z
      exact{_,rfl,by simpa using O}
  case fin=>
   rintro⟨b1,b2⟩ s' ⟨M,rfl,vs,H,W,Y,V,D,I,Z,O⟩;simp only at M;subst M;have hv:lexLt Y W=decide (ys.size<xs.size):=by
    cases D with
    |nil=>
     cases I with
     |nil=>
      simp only[cw]at Z;rw[mZ];exact (decide_eq_false (by omega)).symm
     |cons c u hw=>
      simp only[cw,aR]at Z;rw[lG];exact (decide_eq_false (by omega)).symm
    |cons a t hv=>
     cases I with
     |nil=>
      simp only[cw,aR]at Z;rw[lE];exact (decide_eq_true (by omega)).symm
     |cons c u hw=>
      rw[e7]at V
      cases V
   rw[hv]at O
   wp_walk
   exact{_,rfl,by simpa[jr] using O}
  case h=>
   exact{rfl,rfl,xs.toList,ys.toList,ns,ms,rfl,hi,hj,by omega,h}
theorem gt_tup{prog:aK}{w:bD}{A:bX}{E:af->ak->Prop}{s:ak}{l b:aa}{xs ys:Array af}{ns ms:List Int}{Q:af->ak->Prop}(hl:qX s.heap l xs)(hb:qX s.heap b ys)(hi:dZ xs.toList ns)(W:dZ ys.toList ms)
  (hu:A.units<dY) (h:Q (.bool (lexLt ms ns)) s):aW (aZ prog w) A (cN .Gt (.ref l) (.ref b)) Q E s:=by
 obtain⟨⟨c1,dd,t1,sl⟩,Y,rfl,n,rfl⟩:=id hl;obtain⟨⟨c2,V,U,sm⟩,Z,rfl,m,rfl⟩:=id hb;exact kL (op:=.Gt) {_,Y,rfl} {_,Z,rfl} zP yZ (x9 _ _) (JG l b xs ys n m dd V sl sm ns ms hi W)
  {Y,Z,show Value.bool (lexLt ms ns)≠Value.notImplemented/\Q (.bool (lexLt ms ns)) s from{(fun x=>nomatch x),h}} hu
end HT
namespace L2
open PySem PySem.Spec PyProof.Rows
theorem uH:∀{ns ms:List Int},ns.map V.int=ms.map V.int->ns=ms
 | [],[],_=>rfl
 | [],_::_,h=>by cases h
 |_::_,[],h=>by cases h
 |x::a,y::b,h=>by
  injection h with h1 h2;injection h1 with h1;rw[h1,uH h2]
section
variable{X:Cx}
theorem ya{P:aK}{w:bD}{H:Hp}{s:ak}(ok:HOk P w H s.heap){A:bX}{a b:aa}{ns ms:List Int}(hu:A.units<dY)(ha:H a=some (.tup (ns.map V.int)))(hb:H b=some (.tup (ms.map V.int))) :
  SeqAt.EqAt A s (.ref a) (.ref b) (decide (ns=ms)):=by
 by_cases e:a=b
 ·subst e;rw[ha]at hb;injection hb with hb;injection hb with hb;rw[uH hb,decide_eq_true rfl];exact SeqAt.EqAt.same _
 ·obtain⟨us,r1,i1⟩:=gv ok ha;obtain⟨vs,r2,i2⟩:=gv ok hb;have k1:dZ us ns:=intsAre_of r1;have k2:dZ vs ms:=intsAre_of r2;have at_:∀{us:List af} {ns:List Int},dZ us ns->∀(j:Nat) (h:j<us.length),∃(z:Int) (t:Tok),us[j]=.int z t/\ns[j]?=some z:=by
   intro us ns k
   induction k with
   |nil=>intro j h;exact absurd h (gD _)
   |cons z t _ J=>
    intro j h
    cases j with
    |zero=>exact⟨z,t,rfl,rfl⟩
    |succ j=>exact J j (qc h)
  have Z:=SeqAt.RcAt.tuples (A:=A) (e:=fun j=>decide (ns[j]?=ms[j]?)) i1 i2 hu fun j h1 h2=>by
   obtain⟨x,t,e1,M⟩:=at_ k1 j (by simpa using h1);obtain⟨y,t',e3,W⟩:=at_ k2 j (by simpa using h2);rw[M,W];have z:=zM (A:=A.in1) (s:=s) x t y t';have q:(x==y)=decide (some x=some y):=by
    by_cases e:x=y
    ·subst e;simp
    ·have e':¬some x=some y:=fun q=>e (cQ q);rw[decide_eq_false e',beq_eq_false_iff_ne.mpr e]
   rw[q]at z;simpa[e1,e3] using z
  have fin:((jz (min us.toArray.size vs.toArray.size)).all (fun j=>decide (ns[j]?=ms[j]?))&&us.toArray.size==vs.toArray.size)=decide (ns=ms):=by
   have U:us.toArray.size=ns.length:=by rw[aG];exact k1.length
   have O:vs.toArray.size=ms.length:=by rw[aG];exact k2.length
   rw[U,O]
   by_cases c:ns=ms
   ·subst c;simp
   ·rw[decide_eq_false c,Bool.and_eq_false_iff]
    by_cases l:ns.length=ms.length
    ·left
     rw[List.all_eq_false];refine vz fun Y=>c (uI fun j=>?_)
     by_cases I:j<ns.length
     ·refine vz fun ne=>Y {j,rh.mpr (by omega),?_};rw[decide_eq_false ne];simp
     ·rw[eU (by omega),eU (by omega)]
    ·right
     exact beq_eq_false_iff_ne.mpr l
  rw[fin]at Z;exact SeqAt.EqAt.of_refs e Z
open Classical in
def JH:V->List V->Hp->VK->Prop:=fun x vs H Q=>∃l xs i y,x=.ref l/\vs=[.int (i:Nat),y]/\H l=some (.lst xs)/\i<=xs.length/\xs.length<aB/\Q .non (upd H l (.lst (xs.take i++y::xs.drop i)))
theorem Ew:MtM X "list.insert" JH:=by
 intro pins s σ H x vs v us Q I D g h;obtain⟨l,xs,i,y,rfl,rfl,M,hi,hz,q⟩:=h
 cases D;obtain⟨u,W,rfl,ru,V⟩:=g.two;obtain⟨t,rfl⟩:=ru;obtain⟨z,Z,n,r,hl,e⟩:=I.lstM M;have U:Z.toArray.size<=aB:=by rw[aG];omega
 generalize hx:((i:Nat):Int)=x;have O:tI x=true:=by
  have J:aB=16777216:=me;exact fitsIndex_both (by omega) (by omega)
 have Y:¬(!tI x)=true:=by rw[O];exact bL
 refine rL F.slot_list_insert {_,e,rfl} F.entry_list_insert (F.args_list_insert_3 _ _ _) (OS l Z.toArray n x t W Y U) {e,?_};refine{.non,_,I.lset (its':=Z.take i++W::Z.drop i) M e ?_ ((r.take i).append (.cons V (r.drop i))) ?_,rfl,q}
 ·have k:(if x<0 then (x+(Z.toArray.size:Int)).toNat else min x.toNat Z.toArray.size)=i:=by
   rw[if_neg (by omega),aG];omega
  show (Z.toArray.extract 0 (if x<0 then (x+(Z.toArray.size:Int)).toNat else min x.toNat Z.toArray.size)).push W++Z.toArray.extract (if x<0 then (x+(Z.toArray.size:Int)).toNat else min x.toNat Z.toArray.size)=_;rw[k];apply Array.toList_inj.mp;simp[List.extract_eq_take_drop];exact A1 (by rw[pf];exact ay _)
 ·rw[ax,aR,cM,pf];omega
theorem Cz{z:V}(h:sc0 z):scal z z=true:=by
 cases z with
 |non=>rfl
 |bl b=>rfl
 |int i=>rfl
 |str x=>rfl
 |byt b=>exact cV h
 |flt b=>exact cV h
 |ref a=>exact cV h
 |ty a=>exact cV h
theorem BA(hu:X.A.units+50<dY):OpR X (cN .Eq) (fun x y H Q=>∃n,n<=20/\TEq H n x y/\Q (.bl true) H):=by
 intro pins s σ H x y v u Q I V W h;obtain⟨n,M,d,q⟩:=h;have sc:∀z,sc0 z->x=z->y=z->aW (aZ X.prog X.w) X.A (cN .Eq v u) (EP X pins σ Q) X.xe s:=by
  rintro z O rfl rfl;refine fh pins s σ H _ _ v u Q I V W {Cz O,?_};rw[decide_eq_true rfl];exact q
 have U:∀p Z,x=.ref p->y=.ref Z->aW (aZ X.prog X.w) X.A (cN .Eq v u) (EP X pins σ Q) X.xe s:=fun p Z e1 Y=>
  Nf hu pins s σ H x y v u Q I V W {0,p,Z,by omega,e1,Y,⟨n,M,d⟩,q}
 cases n with
 |zero=>exact sc x d.1 rfl d.2.symm
 |succ n=>
  rcases d with⟨h1,h2⟩|⟨p,Z,_,_,e1,Y,_⟩|⟨p,Z,_,_,e1,Y,_⟩
  ·exact sc x h1 rfl h2.symm
  ·exact U p Z e1 Y
  ·exact U p Z e1 Y
theorem Gm(hu:X.A.units+50<dY):OpR X (cN .NotEq) (fun x y H Q=>∃n,n<=20/\TEq H n x y/\Q (.bl false) H):=by
 intro pins s σ H x y v u Q I V W h;obtain⟨n,M,d,q⟩:=h;have sc:∀z,sc0 z->x=z->y=z->aW (aZ X.prog X.w) X.A (cN .NotEq v u) (EP X pins σ Q) X.xe s:=by
  rintro z O rfl rfl;refine K9 pins s σ H _ _ v u Q I V W {Cz O,?_};rw[decide_eq_true rfl];exact q
 have U:∀p Z,x=.ref p->y=.ref Z->aW (aZ X.prog X.w) X.A (cN .NotEq v u) (EP X pins σ Q) X.xe s:=fun p Z e1 Y=>
  Gj hu pins s σ H x y v u Q I V W ⟨n,p,Z,M,e1,Y,d,q⟩
 cases n with
 |zero=>exact sc x d.1 rfl d.2.symm
 |succ n=>
  rcases d with⟨h1,h2⟩|⟨p,Z,_,_,e1,Y,_⟩|⟨p,Z,_,_,e1,Y,_⟩
  ·exact sc x h1 rfl h2.symm
  ·exact U p Z e1 Y
  ·exact U p Z e1 Y
end
section
variable{X:Cx}{pins:List (aa×Obj)}{σ:St}{H:Hp}{s:ak}{d:aa}
theorem Inv.swap{o o':HO}(I:Inv X pins σ H s)(e:H d=some o)(nt:∀xs,o≠.tup xs)(nb:∀ps,o≠.tbl ps)(nw:∀a,o≠.own a)(W:∀ob u,X.H₀ d≠some (.frz ob u))(ok:eO X.prog X.w (upd H d o') s.heap d o'):Inv X pins σ (upd H d o') s:=by
 have Z:∀b,H b=none->upd H d o' b=none:=fun b z=>by
  rw[aL (aw e z).symm];exact z
 have Y:∀b xs,H b=some (.tup xs)->upd H d o' b=some (.tup xs):=fun b xs z=>by
  rw[aL (o6 z e (fun q=>nt xs q.symm))];exact z
 have U:∀b a,H b=some (.own a)->upd H d o' b=some (.own a):=fun b a z=>by
  rw[aL (o6 z e (fun q=>nw a q.symm))];exact z
 refine{I.ok,I.os,I.bare,{I.base.keep,I.base.slot,fun b ob q n hx=>Z b (I.base.free b ob q n hx),I.base.there,fun b xs q=>Y b xs (I.base.tups b xs q),fun b ob u q=>?_,fun b ps q=>?_},I.loc,I.cell,Z _ I.free,fun x c q=>Z c (I.freeC x c q),fun p hp=>?_,fun b u q=>?_,I.len}
 ·have z:=I.base.frzs b ob u q;have nd:b≠d:=fun y=>W ob u (by rw[<- y];exact q);rw[aL nd];exact z
 ·obtain⟨more,z⟩:=I.base.tbls b ps q;refine{more,?_};rw[aL (o6 z e (fun y=>nb _ y.symm))];exact z
 ·obtain⟨h1,h2,V⟩:=I.pin p hp;exact{h1,Z _ h2,V}
 ·by_cases z:b=d
  ·subst z;rw[ah]at q
   cases q;exact ok
  ·rw[aL z]at q;exact (I.hok b u q).stay (fun c v _ y=>y) (fun c y=>U c b y) Y
theorem Inv.freeze{kvs:List (Key×V)}(I:Inv X pins σ H s)(e:H d=some (.dK kvs))(Y:∀ob u,X.H₀ d≠some (.frz ob u)):∃od,s.heap.get? d=some od/\Inv X pins σ (upd H d (.frz od (.dK kvs))) s:=by
 obtain⟨h1,h2,vs,r,ob,es,Z,g1,W⟩:=(show eO X.prog X.w H s.heap d (.dK kvs) from I.hok d _ e);exact{ob,g1,I.swap e (fun xs z=>by cases z) (fun ps z=>by cases z) (fun a z=>by cases z) Y ⟨g1,h1,h2,vs,r,ob,es,Z,g1,W⟩}
theorem Inv.thaw{kvs:List (Key×V)}{od:Obj}(I:Inv X pins σ H s)(e:H d=some (.frz od (.dK kvs)))(Z:∀ob u,X.H₀ d≠some (.frz ob u)):Inv X pins σ (upd H d (.dK kvs)) s:=by
 obtain⟨_,h1⟩:=(show eO X.prog X.w H s.heap d (.frz od (.dK kvs)) from I.hok d _ e);exact I.swap e (fun xs z=>by cases z) (fun ps z=>by cases z) (fun a z=>by cases z) Z h1
end
def Iti(d:aa)(od:Obj)(kvs:List (Key×V)):It:=
 {fun i H=>H d=some (.frz od (.dK kvs))/\i<kvs.length,fun i H x H'=>∃t Z,x=.ref t/\H t=none/\kvs[i]?=some Z/\H'=upd H t (.tup [kV Z.1,Z.2]),fun i H=>H d=some (.frz od (.dK kvs))/\kvs.length<=i}
theorem KV.at_{kvs:List (Key×V)}{vs:List (Key×af)}(r:KV kvs vs):∀{i:Nat} {Z:Key×V},kvs[i]?=some Z->∃u,vs[i]?=some (Z.1,u)/\RelV Z.2 u:=by
 induction r with
 |nil=>intro i Z h;simp at h
 |cons a _ Y=>
  intro i Z h
  cases i with
  |zero=>
   simp at h;subst h;exact{_,by rw[List.getElem?_cons_zero,a.1],a.2}
  |succ i=>
   obtain⟨u,h1,h2⟩:=Y (by simpa using h);exact{u,by simpa using h1,h2}
theorem Ng{P:aK}{w:bD}{k:Key}{u:af}(h:(gb P w).is k u=true):RelV (kV k) u:=by
 rcases gG h with⟨i,t,rfl,rfl⟩|⟨x,t,rfl,rfl⟩
 ·exact⟨t,rfl⟩
 ·exact⟨t,rfl⟩
theorem tZ:entryFor table "dict_itemiterator.__iter__"=some iE.«dict_keyiterator.__iter__»:=
 entryFor_alias (id':="dict_keyiterator.__iter__") (by kernel_rfl) rfl (by decide +kernel) (by kernel_rfl)
section
variable{P:aK}{w:bD}{K:ae}
def JI(o:Obj):Nat:=match o.data with|.dict _ Z=>Z|_=>0
theorem BB{X:Cx}{pins:List (aa×Obj)}{σ:St}{H:Hp}{s:ak}{d:aa}{od:Obj}{kvs:List (Key×V)}(I:Inv X pins σ H s)(e:H d=some (.frz od (.dK kvs))):∃vs,KV kvs vs/\s.heap.DictAt (gb X.prog X.w) d vs (JI od):=by
 obtain⟨g0,h1,h2,vs,r,ob,es,Y,g1,O,Z,W⟩:=(show eO X.prog X.w H s.heap d (.frz od (.dK kvs)) from I.hok d _ e);rw[g0]at g1
 cases g1;have U:JI od=Y:=by
  unfold JI;rw[Z]
 rw[U];exact⟨vs,r,od,es,g0,O,Z,W⟩
theorem BC{elts:List cS} {x1} {pos:Pos} (d it:aa) (od:Obj) (kvs:List (Key×V)) (bS:d≠it):A6 P w K (.Tuple elts x1 pos) (Iti d od kvs) [it] it (fun i h=>∃ok Y,IsItemIter h it d i kvs.length (JI od) ok Y) where
 mem:=by simp
 obj:=fun i h st b hb=>by
  have e:b=it:=by simpa using hb
  subst e;obtain⟨ok,Y,e⟩:=st;exact{_,e,fun v z=>by cases z}
 keep:=fun i h h' ⟨ok,Y,st⟩ k=>{ok,Y,k it (by simp) _ st}
 item:=by
  intro X hP hw hK hc i pins s σ H E I hf st hg;subst hP hw hK;obtain⟨ok,Y,st⟩:=st;obtain⟨hd,hi⟩:=hg;obtain⟨vs,r,da⟩:=BB I hd;have hl:=r.length;have W:kvs[i]?=some kvs[i]:=aE hi;obtain⟨u,hu,ru⟩:=r.at_ W;obtain⟨O,f1,f2,g,f4,D⟩:=hf it (by simp);rw[hl]at st;refine wpAny_pyNext_items_item st da hu fun key h' hk U ce bW kp=>?_;have I1:Inv X pins σ H {s with heap:=h'}:=I.turned (t':=s.toks) (fun b o hb e=>kp b o hb e) O f1 g f4 D;refine{_,rfl,wpAny_letOwnedTupleGo_items U fun h2 J sb=>?_};have Z:Inv X pins σ H {s with heap:=h2}:=I1.turned (t':=s.toks) (fun b o hb e=>sb.extBut b o hb e) O f1 g f4 D;have fr:H s.heap.objs.size=none:=I.hok.fresh (ay _);have M:s.heap.objs.size≠it:=(aQ (aP st)).symm;have e2:h2.get? s.heap.objs.size=some {cls:=.type "tuple",data:=.seq #[key,u]}:=sb.extBut _ _ M ce;have I3:Inv X pins σ (upd H s.heap.objs.size (.tup [kV kvs[i].1,kvs[i].2])) {s with heap:=h2}:=by
   have ca:∀b v,s.heap.get? b=some v->b≠it->h2.get? b=some v:=fun b v q n=>sb.extBut b v n (kp b v n q);exact{Z.ok,Z.os,Z.bare,{Z.base.keep,Z.base.slot,fun b ob q n hx=>by
     have z:=Z.base.free b ob q n hx
     by_cases y:b=s.heap.objs.size
     ·exfalso;have lt:b<s.heap.objs.size:=bj (aP q) I.sz;rw[y]at lt;exact absurd lt (hU _)
     ·rw[aL y];exact z,Z.base.there,fun b xs q=>by
     rw[aL (aw (Z.base.tups b xs q) fr)];exact Z.base.tups b xs q,fun b ob v q=>by
     rw[aL (aw (Z.base.frzs b ob v q) fr)];exact Z.base.frzs b ob v q,fun b ps q=>by
     obtain⟨m,z⟩:=Z.base.tbls b ps q;exact{m,by rw[aL (aw z fr)];exact z}},Z.loc,Z.cell,by
     rw[aL (aQ I.lt)];exact Z.free,fun x c q=>by
     obtain⟨v,y⟩:=I.cell x c q;rw[aL (aQ y.lt)];exact Z.freeC x c q,fun p hp=>by
     obtain⟨h1,cd,h3⟩:=Z.pin p hp;obtain⟨g1,_⟩:=I.pin p hp;refine{h1,?_,h3};rw[aL (aQ (aP g1))];exact cd,fun b v q=>by
     by_cases y:b=s.heap.objs.size
     ·subst y;rw[ah]at q
      cases q;exact{(by show 2<=aB;decide),[key,u],.cons (Ng hk) (.cons ru .nil),_,e2,rfl,0,rfl}
     ·rw[aL y]at q;exact (Z.hok b v q).stay (fun c v' _ z=>z) (fun c z=>by rw[aL (aw z fr)];exact z) fun c xs z=>by rw[aL (aw z fr)];exact z,Z.len}
  refine{.ref s.heap.objs.size,_,I3,rfl,{_,_,rfl,fr,W,rfl},{_,_,by rw[hl];exact J},fun b hb=>?_};have e:b=it:=by simpa using hb
  subst e;rw[aL (gm M)];exact O
 done:=by
  intro X hP hw hK hc i pins s σ H E I hf st hg;subst hP hw hK;obtain⟨ok,Y,st⟩:=st;obtain⟨hd,hi⟩:=hg;obtain⟨vs,r,da⟩:=BB I hd;have hl:=r.length;obtain⟨O,f1,f2,g,f4,D⟩:=hf it (by simp);rw[hl]at st;exact wpAny_pyNext_items_end (I.ok.hd hc) st da (eU (by omega)) fun h' eb=>{rfl,I.turned (t':=s.toks) (fun b o hb e=>eb b o hb e) O f1 g f4 D}
 self:=fun A i s Q E ⟨ok,Y,st⟩ h=>by
  have ty:s.TypeIs (.ref it) "dict_itemiterator":={_,st,rfl};refine xx ty F.slot_dict_itemiterator_iter (qZ F.slot_dict_itemiterator_iter ty tZ ?_ (F.args_dict_itemiterator_iter_1 _));show aW _ _ (ret (.ref it)) _ _ s;exact aU {_,rfl,"dict_itemiterator",_,ty,F.slot_dict_itemiterator_next.lookup,h}
end
section
variable{X:Cx}{o:cS}{to:TE}{apos cpos:Pos}{elts:List cS}{x1:Nat}{pos:Pos}
def Nh(X:Cx)(to:TE):TI:=fun σ H R=>to σ H fun x H1=>∃d kvs,x=.ref d/\H1 d=some (.dK kvs)/\(∀ob u,X.H₀ d≠some (.frz ob u))/\∀od,R (Iti d od kvs) (upd H1 d (.frz od (.dK kvs)))
theorem Gn(ho:PE X o to)(Z:lY o "items" X.env (gf o X.env)=gf o X.env:=by rfl)(Y:(apos.endLine==cpos.line)=true:=by rfl):PI X (.Tuple elts x1 pos) (.Call (.Attribute o "items" apos) [] [] cpos) (Nh X to):=by
 intro pins s σ H R I h;refine Fd Z Y (thn (ho pins s σ H _ I h) fun v W ⟨x,H1,O,r1,d,kvs,ex,hd,M,q⟩=>?_);subst ex
 cases r1;obtain⟨hz,n1,J,k1,V⟩:=(show eO X.prog X.w H1 W.heap d (.dK kvs) from O.hok d _ hd);obtain⟨ob,_,_,g1,g,_⟩:=id V;refine{"dict","dict.items",PySem.F.plainAttrs_dict,yb,PySem.F.type_dict_items,V.typeIs,fun a e=>?_,pH rfl (Cm ?_)}
 ·cases e;exact⟨ob,g1,g.2.1⟩
 refine Gf yb V.typeIs PySem.F.entry_dict_items (PySem.F.args_dict_items_1 _) (meets_dict_items (gb X.prog X.w) d n1) {⟨J,V⟩,?_};have z:Inv X pins σ H1 {W with heap:=W.heap.push {cls:=.type "dict_items",data:=.fields #[.ref d]}}:=O.kept (t':=W.toks) fun b ob q=>aI _ q;obtain⟨od,g3,U⟩:=z.freeze hd M;obtain⟨vs,r,D⟩:=BB U (ah:upd H1 d (.frz od (.dK kvs)) d=_);refine wpAny_pyIter_items {_,cz _ rfl,rfl,rfl} D ?_;have lt:=aP g3;refine{_,[_],_,_,_,rfl,U.kept (t':=W.toks) fun b ob q=>aI _ q,BC d _ od kvs (aQ lt),{.none,.none,?_},fun b hb=>?_,q od}
 ·rw[r.length];exact cz _ rfl
 ·have e:b=_:=aA.mp hb;subst e;exact U.fpOk (ay _) (U.hok.fresh (ay _))
end
theorem Ey{d:aa}{od:Obj}{kvs:List (Key×V)}{g:TG}{tb:TS}{D:mY}{σ:St}{H:Hp}(Z:Nat->St->Hp->Prop)(h0:Z 0 σ H)(hl:∀i σ H,i<=kvs.length->Z i σ H->H d=some (.frz od (.dK kvs)))
  (hs:∀i O t σ H,kvs[i]?=some O->Z i σ H->H t=none->g (.ref t) σ (upd H t (.tup [kV O.1,O.2])) fun Y H2=>tb {D with nx:=Z (i+1),ct:=Z (i+1),bk:=D.nx} Y H2) (hd:∀σ H,Z kvs.length σ H->D.nx σ H) :
  ∃W:Nat->Nat->St->Hp->Prop,(∃m,W 0 m σ H)/\∀i m σ H,W i m σ H ->
   ((Iti d od kvs).stop i H/\D.nx σ H)\/((Iti d od kvs).go i H/\∃N:St->Hp->Prop,(∀U H',N U H'->∃M,M<m/\W (i+1) M U H')/\∀x H',(Iti d od kvs).yld i H x H'->g x σ H' fun Y H2=>tb {D with nx:=N,ct:=N,bk:=D.nx} Y H2):=by
 refine{fun i m σ H=>m=kvs.length-i/\i<=kvs.length/\Z i σ H,{kvs.length,by simp,bV _,h0},?_};rintro i m σ H ⟨rfl,hi,p⟩;have q:=hl i σ H hi p
 by_cases lt:i<kvs.length
 ·refine .inr {⟨q,lt⟩,Z (i+1),fun U H' J=>{kvs.length-(i+1),by omega,rfl,lt,J},fun x H' y=>?_};obtain⟨t,O,rfl,ht,hk,rfl⟩:=y;exact hs i O t σ H hk p ht
 ·have e:i=kvs.length:=by omega
  subst e;exact .inl {{q,ay _},hd σ H p}
def Lm(X:Cx)(D:mY):mY where
 nx:=fun σ H=>∃d od kvs,H d=some (.frz od (.dK kvs))/\(∀ob u,X.H₀ d≠some (.frz ob u))/\D.nx σ (upd H d (.dK kvs))
 rt:=D.rt
 bk:=D.bk
 ct:=D.ct
theorem JJ{X:Cx}{st:c9}{t:TS}(h:PS X st t):PS X st (fun D σ H=>t (Lm X D) σ H):=by
 intro pins s σ H D I q;refine thn (h pins s σ H (Lm X D) I q) fun fl V z=>?_
 cases fl with
 |next=>
  obtain⟨Z,H',W,d,od,kvs,e,Y,y⟩:=z;exact{Z,_,W.thaw e Y,y}
 |brk=>exact z
 |cont=>exact z
 |ret u=>exact z
end L2
namespace L2
open PySem PySem.Spec PyProof.Rows PySem.SeqAt
section
variable{P:aK}{w:bD}{H:Hp}{s:ak}
end
section
variable{X:Cx}
end
end L2
namespace L2
open PySem PySem.Spec PyProof.Rows
section
variable{prog:aK}{w:bD}{A:bX}{E:af->ak->Prop}{s:ak}
end
section
variable{X:Cx}
end
structure xy(K:ae)(C:aa):Prop where
 ga:aS K (.ref C) "__getattribute__"=some (some (.builtin "BaseException.__getattribute__"))
 gh:aS K (.ref C) "__getattr__"=some none
 cl:aS K (.ref C) "__class__"=some (some (.builtin "object.__class__"))
 cn:Ce K (.builtin "object.__class__") "__get__"=some (some (.builtin "getset_descriptor.__get__"))
 ck:E7 K (.builtin "object.__class__")=some true
 ob:xn K C (.type "object")=some true
 be:xn K C (.type "BaseException")=some true
theorem BD:Manifest.canonical "BaseException.__getattribute__"="object.__getattribute__":=by decide +kernel
section
variable{prog:aK}{w:bD}{A:bX}{E:af->ak->Prop}{s:ak}{K:ae}{x C:aa}{ox:Obj}
theorem Gp{f:aa}{name:Str}{pl:Sem Bool}{Q:af×List af->ak->Prop}(X:K.In s.heap)(I:vV s.heap x ox C none)(c:xy K C)(Z:aS K (.ref C) name=some (some (.ref f)))(ht:FE K (.ref f)=some (.type "function"))
  (h:Q (.ref f,[.ref x]) s):aW (aZ prog w) A (oC (.ref x) name pl) Q E s:=by
 unfold oC specialOf;refine ao (ao (I.type.here ((kg X c.ga).here ?_)));dsimp only;rw[BD,if_neg (by decide)];refine ao (ao (I.type.here ((kg X c.gh).here ?_)));refine ao (ao (I.type.here ((kg X Z).here (ao ((PySem.W.looks_typeIn X ht).here ?_)))));rw[if_neg (by decide +kernel)];refine ao (wpAny_loadPart I.at_ ?_);have hd:=I.dict
 cases e:ox.dict with
 |none=>exact ao (Bx (aU h))
 |some dx=>rw[e]at hd;exact hd.elim
end
def XOk(a C:aa)(h:cB):Prop:=∃ob,h.get? a=some ob/\ob.cls=.ref C/\ob.dict=none/\Gq ob=true
def XO(a C:aa):HO:=.ext (XOk a C)
theorem XOk.obj{P:aK}{w:bD}{H:Hp}{h:cB}{a C:aa}(x:XOk a C h):eO P w H h a (XO a C):=by
 obtain⟨ob,e,r⟩:=x;refine{⟨ob,e,r⟩,⟨ob,e⟩,fun h1 h2 y k=>?_};obtain⟨o,e1,r1⟩:=y;exact{o,k o e1,r1}
theorem XOk.inst{h:cB}{a C:aa}(x:XOk a C h):∃ox,vV h a ox C none:=by
 obtain⟨ob,e,c,d,n⟩:=x;exact{ob,e,c,n,by rw[d];trivial}
theorem Ni{P:aK}{w:bD}{H:Hp}{h:cB}{a C:aa}(ok:HOk P w H h)(e:H a=some (XO a C)):XOk a C h:=(ok a _ e).1
section
variable{X:Cx}{pins:List (aa×Obj)}{σ:St}{H:Hp}{s:ak}
end
section
variable{P:aK}{w:bD}{H:Hp}{h h':cB}{a:aa}{o:HO}{fs ex:List aa}
end
section
variable{X:Cx}{pins:List (aa×Obj)}{σ:St}{H:Hp}{s:ak}{C:aa}{x:Str}{p pos:Pos}{e:cS}{es:List cS}{t:TA}
end
section
variable{X:Cx}{CX:CXT}{k:Nat}{f C:aa}{fd:bU}{ps:List Str}{sp:Sp}{E:XK}{m:Str}{pos apos:Pos}{o:cS}{ta:TE}
end
section
variable{X:Cx}{pins:List (aa×Obj)}{σ:St}{H:Hp}{s:ak}
theorem Inv.adopt{B:cB}{Z C:aa}{fl:af}(I:Inv X pins σ H s)(f:FlD B X.stack Z (.ref C) fl s.heap)(V:yS X pins H B s.heap):H Z=none/\Inv X pins σ (upd H Z (XO Z C)) s:=by
 obtain⟨hB,hn,hl,U,vs,T,oT,ts,W,hc,M,hd,_⟩:=f;have O:Z∉frs X.stack:=fun z=>by
  obtain⟨_,o,ho,q⟩:=hl.mem z;rw[W]at ho
  cases ho;exact q vs hd
 have nb:∀o,B.get? Z≠some o:=fun o z=>by rw[hn]at z;cases z
 have J:H Z=none:=by
  cases z:H Z with
  |none=>rfl
  |some u=>exact absurd (V Z U (.inl (by rw[z];simp)) O W) (nb U)
 have ne:∀{b:aa} {o:HO},H b=some o->b≠Z:=fun {b o} z=>aw z J;refine{J,I.ok,I.os,I.bare,{I.base.keep,I.base.slot,fun b o e n hx=>?_,I.base.there,fun b xs e=>?_,fun b o u e=>?_,fun b ps e=>?_},I.loc,I.cell,?_,fun x c e=>?_,fun p hp=>?_,fun b u e=>?_,I.len}
 ·rw[aL]
  ·exact I.base.free b o e n hx
  ·rintro rfl;exact nb U (V _ U (.inr (.inl ⟨hx,o,e⟩)) O W)
 ·have z:=I.base.tups b xs e;rw[aL (ne z)];exact z
 ·have z:=I.base.frzs b o u e;rw[aL (ne z)];exact z
 ·obtain⟨more,z⟩:=I.base.tbls b ps e;exact{more,by rw[aL (ne z)];exact z}
 ·rw[aL]
  ·exact I.free
  ·intro z;obtain⟨m,⟨o,es,ep,ho,Y,_⟩,_⟩:=I.loc;rw[z,W]at ho
   cases ho;rw[hd]at Y
   cases Y
 ·rw[aL]
  ·exact I.freeC x c e
  ·intro z;obtain⟨v,o,ho,Y⟩:=I.cell x c e;rw[z,W]at ho
   cases ho;rw[hd]at Y
   cases Y
 ·obtain⟨e1,e2,e3,g,e5⟩:=I.pin p hp;refine{e1,?_,e3,g,e5};rw[aL]
  ·exact e2
  ·intro z;have D:s.heap.get? Z=some p.2:=by rw[<- z];exact e1
   rw[W]at D
   cases D;exact nb _ (V Z _ (.inr (.inr ⟨p,hp,z⟩)) O W)
 ·by_cases hb:b=Z
  ·subst hb;rw[ah]at e
   cases e;refine XOk.obj {U,W,hc,M,?_};unfold Gq;rw[hd]
  ·rw[aL hb]at e;exact (I.hok b u e).stay (fun _ _ _ q=>q) (fun c q=>by rw[aL (ne q)];exact q) fun c xs q=>by rw[aL (ne q)];exact q
theorem Ez{M:Jb}{A:bX}{E:af->ak->Prop}{i:Nat}{x:Str}{v:V}{Q:Unit->ak->Prop}(I:Inv X pins σ H s)(hN:X.N.Nodup)(hi:X.N[i]?=some x)(hk:X.env.scope.names.lookup x=some .local)(hv:σ[i]?=some (some v))
  (h:∀s',Inv X pins (σ.set i none) H s'->Q () s'):aW M A (unbindName X.env x) Q E s:=by
 obtain⟨m,hn,hl⟩:=id I.loc;have Y:(X.env.scope.kind==.class||(X.env.scope.kind==.module&&X.env.locals != X.env.globals))=false:=by rw[I.ok.kind];rfl
 have W:X.env.kindOf x=some .local:=hk;have O:(m x).isSome=true:=by
  obtain⟨u,_,q⟩:=hl i x v hi hv (.inl hk)
  rcases q with⟨_,e⟩|⟨k,_⟩
  ·rw[e];rfl
  ·rw[W]at k
   rcases k with k|k<;>cases k
 unfold unbindName;refine ao (wpAny_point (ao ?_));unfold deleteName;simp only[W,Y];rw[if_neg (by decide)];refine ao (wpAny_nsDel_keeps hn fun h' v' g hs=>?_);rw[O];simp only[Bool.not_true,tJ,if_false];refine aU (wpAny_point (h _ ?_));obtain⟨oL,_,_,bF,_⟩:=id hn;have cne:=I.cne;have Z:∀b o,X.s₀.heap.get? b=some o->b≠X.env.locals:=fun b o e=>aQ (bj (aP e) I.ok.above);refine{I.ok,I.os,I.bare,{fun b o e n hb hx=>(hs.2 b (Z b o e)).trans (I.base.keep b o e n hb hx),fun b o e n hb hx=>?_,I.base.free,fun b o e hx=>?_,I.base.tups,I.base.frzs,I.base.tbls},{_,g,fun j y v2 e1 U e3=>?_},fun y c e=>?_,I.free,I.freeC,fun p hp=>?_,fun b ob e=>?_,by simpa using I.len}
 ·obtain⟨sl,e1⟩:=I.base.slot b o e n hb hx;exact{sl,(hs.2 b (Z b o e)).trans e1}
 ·obtain⟨o',e1⟩:=I.base.there b o e hx;exact{o',(hs.2 b (Z b o e)).trans e1}
 ·by_cases D:j=i
  ·subst D;have J:j<σ.length:=(aF.mp hv).1;rw[fV J]at U
   cases U
  ·rw[iV (gm D)]at U;obtain⟨u',r',q⟩:=hl j y v2 e1 U e3;refine{u',r',?_}
   rcases q with⟨k,e⟩|⟨k,c,e,z⟩
   ·refine .inl {k,?_};have bG:y≠x:=fun e=>D (vO hN e1 (e ▸ hi));simp[bG,e]
   ·exact .inr {k,c,e,z.sameBut hs (cne y c e)}
 ·obtain⟨w',z⟩:=I.cell y c e;exact{w',z.sameBut hs (cne y c e)}
 ·obtain⟨e,n,ne,nf,d⟩:=I.pin p hp;exact{(hs.2 p.1 ne).trans e,n,ne,nf,d}
 ·refine (I.hok b ob e).stay (fun c w' hc q=>(hs.2 c ?_).trans q) (fun _ q=>q) fun _ _ q=>q;rintro rfl
  rcases hc with rfl|hc
  ·rw[I.free]at e;cases e
  ·rw[I.free]at hc;cases hc
def Ln(i:Nat)(D:mY):mY:={nx:=fun σ H=>D.nx (σ.set i none) H,rt:=D.rt,bk:=fun σ H=>D.bk (σ.set i none) H,ct:=fun σ H=>D.ct (σ.set i none) H}
def thAs(K:ae)(Y:aa)(i:Nat)(t:TS)(th:TH):TH:=fun C D σ H=>
 (dD K (.ref C) (.ref Y)=some true/\∀Z,H Z=none->t (Ln i D) (σ.set i (some (.ref Z))) (upd H Z (XO Z C)))\/(dD K (.ref C) (.ref Y)=some false/\th C D σ H)
theorem vA{M:Jb}{A:bX}{E:af->ak->Prop}{i:Nat}{x:Str}{pos:Pos}{Q:Unit->ak->Prop}(I:Inv X pins σ H s)(W:X.N.Nodup)(hi:X.N[i]?=some x)(hk:X.env.scope.names.lookup x=some .local)
  (h:∀s',Inv X pins (σ.set i none) H s'->Q () s'):aW M A (do bindName X.env x .none;t7 X.env x pos) Q E s:=by
 have Z:i<σ.length:=by
  rw[I.len];exact (aF.mp hi).1
 refine ao (wpAny_bindName (rX (v:=.non) I W hi (.inl hk) rfl (fun U V=>?_) (.inr hk)));unfold t7;refine wpAny_onRaise (Ez (v:=.non) V W hi hk (fV Z) fun s2 Y=>h s2 ?_);rw[List.set_set]at Y;exact Y
theorem Nj{x n:Str}{Ci:aa}{np pos:Pos}{V:c9}{Y:List c9}{rest:List vv}{t:TS}{th:TH}(i:Nat)(hg:Gl X x)(hm:X.mg x=some (.ref Ci))(hN:X.N.Nodup)(hi:X.N[i]?=some n)(hk:X.env.scope.names.lookup n=some .local)
  (bI:∀Z,PSs (X.hdl Z) (V::Y) t) (hr:PHs X rest th) (hd:(x==("__debug__":Str))=false:=by decide):PHs X (.ExceptHandler (some (.Name x np)) (some n) (V::Y) pos::rest) (thAs X.K Ci i t th):=by
 intro pins s σ H D Z C B I fl g h;refine wpAny_handleBy_cons (codeAny_handlers_test ?_) (by intro q;cases q);refine rY (X:=X.hdl Z) (I.hdl Z) hg hm ?_ hd;obtain⟨ob,bH,hc⟩:=fl.there;have LT:PySem.W.Looks (aZ X.prog X.w) s.heap (typeOf (.ref Z)) (.ref C):=by
  rw[<- hc];exact (PySem.W.Looks.ld bH).andThen .now
 rcases h with⟨hx,q⟩|⟨hx,q⟩
 ·refine (Fi I.kIn LT hx).here ?_;refine codeAny_handlers_suite_as (sL fl fun h6 O bG=>?_);have I6:=I.landed O.1 g bG;obtain⟨hz,J⟩:=I6.adopt O (yS.land I O.1 g);refine rX (X:=X.hdl Z) (v:=.ref Z) (J.hdl Z) hN hi (.inl hk) rfl (fun s2 I2=>?_) (.inr hk);refine eV (bI Z pins _ _ _ (Ln i D) I2 (q Z hz)) (fun f s3 z=>?_) (fun _ _ z=>cV z);show aW _ X.A (do bindName X.env n .none;t7 X.env n pos) (fun _ s₃=>SP X pins D f s₃) X.xe s3
  cases f with
  |next=>obtain⟨bP,H',M,U⟩:=z;exact vA (M.unhdl I.ok) hN hi hk fun s4 I4=>{_,_,I4,U}
  |brk=>obtain⟨bP,H',M,U⟩:=z;exact vA (M.unhdl I.ok) hN hi hk fun s4 I4=>{_,_,I4,U}
  |cont=>obtain⟨bP,H',M,U⟩:=z;exact vA (M.unhdl I.ok) hN hi hk fun s4 I4=>{_,_,I4,U}
  |ret u=>obtain⟨v,bP,H',M,r3,U⟩:=z;exact vA (M.unhdl I.ok) hN hi hk fun s4 I4=>{v,_,_,I4,r3,U}
 ·refine (Fi I.kIn LT hx).here ?_;exact hr pins s σ H D Z C B I fl g q
end
section
variable{X:Cx}{pins:List (aa×Obj)}{σ:St}{H:Hp}{s s2:ak}{h':cB}
theorem Inv.turned2{t':Nat}{e it:aa}(I:Inv X pins σ H s)(k:∀b o,b≠e->b≠it->s.heap.get? b=some o->h'.get? b=some o)(f:yB X pins H e)(g:yB X pins H it):Inv X pins σ H {s with heap:=h',toks:=t'}:=by
 have Z:∀b u,H b=some u->b≠e:=fun b u q z=>by rw[z,f.1]at q;cases q
 have Y:∀b u,H b=some u->b≠it:=fun b u q z=>by rw[z,g.1]at q;cases q
 obtain⟨f0,f1,f2,W,f4,M⟩:=f;obtain⟨g0,g1,g2,D,J,U⟩:=g;refine I.step (g':=s.gens) (d':=s.drawn) (ch:=[e,it]) (fun b hb=>?_) (fun b o _ _ hc q _=>k b o (fun z=>hc (by simp[z])) (fun z=>hc (by simp[z])) q) (fun b o _ _ hc q _=>{o.slots,k b o (fun z=>hc (by simp[z])) (fun z=>hc (by simp[z])) q}) (fun _ _ _ _ n=>n)
  (fun b o hc q=>{o,k b o (fun z=>hc (by simp[z])) (fun z=>hc (by simp[z])) q}) (fun _ _ q=>q) (fun _ _ _ q=>q) (fun b ps q=>{#[],by rw[q];simp}) (fun m hm=>?_) (fun b u q=>?_) I.bare
 ·rcases ar.mp hb with z|z
  ·subst z;exact⟨W,f1,f4,M⟩
  ·have z:=aA.mp z;subst z;exact⟨D,g1,J,U⟩
 ·obtain⟨o,es,V,ho,r⟩:=hm;exact{o,es,V,k _ o (gm f1) (gm g1) ho,r}
 ·refine (I.hok b u q).stay (fun c v hc O=>k c v ?_ ?_ O) (fun _ q=>q) fun _ _ q=>q
  ·rcases hc with z|z
   ·rw[z];exact Z b u q
   ·exact Z c _ z
  ·rcases hc with z|z
   ·rw[z];exact Y b u q
   ·exact Y c _ z
theorem Inv.track{o:HO}(I:Inv X pins σ H s)(Z:Inv X pins σ H s2)(ok:eO X.prog X.w (upd H s.heap.objs.size o) s2.heap s.heap.objs.size o):Inv X pins σ (upd H s.heap.objs.size o) s2:=by
 have fr:H s.heap.objs.size=none:=I.hok.fresh (ay _);exact{Z.ok,Z.os,Z.bare,{Z.base.keep,Z.base.slot,fun b ob q n hx=>by
   have z:=Z.base.free b ob q n hx
   by_cases y:b=s.heap.objs.size
   ·exfalso;have lt:b<s.heap.objs.size:=bj (aP q) I.sz;rw[y]at lt;exact absurd lt (hU _)
   ·rw[aL y];exact z,Z.base.there,fun b xs q=>by
   rw[aL (aw (Z.base.tups b xs q) fr)];exact Z.base.tups b xs q,fun b ob v q=>by
   rw[aL (aw (Z.base.frzs b ob v q) fr)];exact Z.base.frzs b ob v q,fun b ps q=>by
   obtain⟨m,z⟩:=Z.base.tbls b ps q;exact{m,by rw[aL (aw z fr)];exact z}},Z.loc,Z.cell,by
   rw[aL (aQ I.lt)];exact Z.free,fun x c q=>by
   obtain⟨v,y⟩:=I.cell x c q;rw[aL (aQ y.lt)];exact Z.freeC x c q,fun p hp=>by
   obtain⟨h1,Y,W⟩:=Z.pin p hp;obtain⟨g1,_⟩:=I.pin p hp;refine{h1,?_,W};rw[aL (aQ (aP g1))];exact Y,fun b v q=>by
   by_cases y:b=s.heap.objs.size
   ·subst y;rw[ah]at q
    cases q;exact ok
   ·rw[aL y]at q;exact (Z.hok b v q).stay (fun c V _ z=>z) (fun c z=>by rw[aL (aw z fr)];exact z) fun c xs z=>by rw[aL (aw z fr)];exact z,Z.len}
end
def Ite(K:ae)(a:aa):It:=
 {fun i H=>∃xs x,SqL K H a xs/\xs[i]?=some x,fun i H x H'=>∃t y,x=.ref t/\H t=none/\(∀xs,SqL K H a xs->xs[i]?=some y)/\H'=upd H t (.tup [.int i,y]),fun i H=>∃xs,SqL K H a xs/\xs.length<=i}
section
variable{P:aK}{w:bD}{K:ae}
theorem EA{elts:List cS} {x1} {pos:Pos} (a e it:aa) (W:e≠it):A6 P w K (.Tuple elts x1 pos) (Ite K a) [e,it] e (fun i h=>∃old,IsEnum h e it (i:Int) old/\h.IsListIter it a i) where
 mem:=by simp
 obj:=fun i h st b hb=>by
  obtain⟨old,h1,h2⟩:=st
  rcases ar.mp hb with z|z
  ·subst z;exact{_,h1,fun v z=>by cases z}
  ·have z:=aA.mp z;subst z;obtain⟨o,e,c,d⟩:=h2;exact{o,e,fun v z=>by rw[d]at z;cases z}
 keep:=fun i h h' ⟨old,h1,h2⟩ k=>{old,k e (by simp) _ h1,h2.at fun o q=>k it (by simp) o q}
 item:=by
  intro X J hw g hc i pins s σ H E I U st hg;subst J hw g;obtain⟨old,Z,Y⟩:=st;obtain⟨xs,x,hq,hx⟩:=hg;obtain⟨O,rv,p,hz⟩:=I.list hq;obtain⟨u,hu,ru⟩:=rv.get hx;have F1:=U e (by simp);have F2:=U it (by simp);obtain⟨V,f1,f2,D,f4,M⟩:=id F1;refine wpAny_pyNext_enum_item Z Y p.isList (x:=u) (by simpa using hu) W fun h' a1 a2 a3 a4 a5=>?_;have I1:Inv X pins σ H {s with heap:=h',toks:=s.toks+1}:=I.turned2 (t':=s.toks+1) (fun b o h1 h2 q=>a5 b o h1 h2 q) F1 F2;refine{_,rfl,wpAny_letOwnedTupleGo_enum a1 fun h2 e2 sb=>?_};have I2:Inv X pins σ H {s with heap:=h2,toks:=s.toks+1}:=I1.turned (t':=s.toks+1) (fun b o hb q=>sb.extBut b o hb q) V f1 D f4 M;have fr:H s.heap.objs.size=none:=I.hok.fresh (ay _);have n1:s.heap.objs.size≠e:=(aQ (aP Z)).symm;have n2:s.heap.objs.size≠it:=by
   obtain⟨o,q,_⟩:=Y;exact (aQ (aP q)).symm
  have t2:=sb.extBut _ _ n1 a3;have I3:=I.track I2 (o:=.tup [.int i,x]) {(by show 2<=aB;decide),[.int i s.toks,u],.cons {_,rfl} (.cons ru .nil),_,t2,rfl,0,rfl};refine{.ref s.heap.objs.size,_,I3,rfl,{_,x,rfl,fr,fun ys hy=>by rw[I.list_inj hy hq];exact hx,rfl},{u,e2,a2.extBut sb.extBut (gm W)},fun b hb=>?_}
  rcases ar.mp hb with z|z
  ·rw[z,aL (gm n1)];exact V
  ·rw[aA.mp z,aL (gm n2)];exact F2.1
 done:=by
  intro X J hw g hc i pins s σ H E I U st hg;subst J hw g;obtain⟨old,Z,Y⟩:=st;obtain⟨xs,hq,hx⟩:=hg;obtain⟨O,rv,p,hz⟩:=I.list hq;obtain⟨V,f1,f2,D,f4,M⟩:=U it (by simp);have hl:=rv.length;exact wpAny_pyNext_enum_end (I.ok.hd hc) Z Y p.isList (by simp;omega) fun h' eb=>{rfl,I.turned (t':=s.toks) (fun b o hb e=>eb b o hb e) V f1 D f4 M}
 self:=fun A i s Q E ⟨old,st,_⟩ h=>by
  have ty:s.TypeIs (.ref e) "enumerate":={_,st,rfl};refine xx ty F.slot_enumerate_iter (qZ F.slot_enumerate_iter ty F.entry_enumerate_iter ?_ (F.args_enumerate_iter_1 _));show aW _ _ (ret (.ref e)) _ _ s;exact aU {_,rfl,"enumerate",_,ty,F.slot_enumerate_next.lookup,h}
end
section
variable{X:Cx}{elts:List cS}{x1:Nat}{tpos pos p:Pos}
def Lo(K:ae)(tl:TA):TI:=fun σ H R=>tl σ H fun vs H1=>∃a,vs=[.ref a]/\(∃xs,SqL K H1 a xs)/\R (Ite K a) H1
theorem JK{a:cS}{ta:TA}(W:Gl X "enumerate")(hm:X.mg "enumerate"=none)(ha:PA X [a] ta)(hs:cE [a] X.env=[(false,gf a X.env)]:=by rfl):PI X (.Tuple elts x1 tpos) (.Call (.Name "enumerate" p) [a] [] pos) (Lo X.K ta):=by
 intro pins s σ H R I h;refine Call_ (rD I W hm boot_enumerate (ib (thn (ha pos pins s σ H _ I h) fun us Z ⟨vs,H1,Y,r1,J⟩=>?_) hs rfl));obtain⟨l,e,⟨xs,hq⟩,q⟩:=J;subst e;obtain⟨u,rfl,ru⟩:=vals1 r1
 cases ru;obtain⟨M,g,pl,D⟩:=Y.list hq;refine call_enumerate_list pl.isList fun h' e1 U e3 V=>?_;have O:Inv X pins σ H1 {Z with heap:=h'}:=Y.kept (t':=Z.toks) V;have ty:({Z with heap:=h'}:ak).TypeIs (.ref (Z.heap.objs.size+1)) "enumerate":={_,e1,rfl};refine xx ty F.slot_enumerate_iter (qZ F.slot_enumerate_iter ty F.entry_enumerate_iter ?_ (F.args_enumerate_iter_1 _));show aW _ _ (ret (.ref (Z.heap.objs.size+1))) _ _ _;refine aU {_,rfl,"enumerate",_,ty,F.slot_enumerate_next.lookup,?_};refine{_,[_,_],_,_,H1,rfl,O,EA l _ Z.heap.objs.size (Nat.succ_ne_self _),{.none,e1,U},fun b hb=>?_,q}
 rcases ar.mp hb with z|z
 ·rw[z];exact Y.fpOk (gs _) (Y.hok.fresh (gs _))
 ·rw[aA.mp z];exact Y.fpOk (ay _) (Y.hok.fresh (ay _))
theorem EB{K:ae}{a:aa}{xs:List V}{n:Nat}{g:TG}{tc:TT}{te:TE}{σ:St}{H:Hp}{Q:VK}(Y:Nat->List V->Hp->Prop)(h0:Y 0 [] H)(hl:∀i ys H,i<=xs.length->Y i ys H->SqL K H a xs/\ys.length<aB)
  (hs:∀i x t ys H,xs[i]?=some x->Y i ys H->H t=none->g (.ref t) (cF n none++σ) (upd H t (.tup [.int i,x])) fun Z H2=>Z.drop n=σ/\tc Z H2 fun b O=>if b=true then te Z O fun y J=>Y (i+1) (ys++[y]) J else Y (i+1) ys O)
  (hd:∀ys H,Y xs.length ys H->∀p,H p=none->Q (.ref p) (upd H p (.lst ys))) :
  ∃W:Nat->Nat->List V->Hp->Prop,(∃m,W 0 m [] H)/\∀i m ys H,W i m ys H->ys.length<aB/\(((Ite K a).stop i H/\∀p,H p=none->Q (.ref p) (upd H p (.lst ys))) \/
   ((Ite K a).go i H/\∃N:List V->Hp->Prop,(∀U H',N U H'->∃I,I<m/\W (i+1) I U H')/\∀x H',(Ite K a).yld i H x H'->g x (cF n none++σ) H' fun Z H2=>Z.drop n=σ/\tc Z H2 fun b O=>
    if b=true then te Z O fun y J=>N (ys++[y]) J else N ys O)):=by
 refine{fun i m ys H=>m=xs.length-i/\i<=xs.length/\Y i ys H,{xs.length,by simp,bV _,h0},?_};rintro i m ys H ⟨rfl,hi,p⟩;obtain⟨q,z⟩:=hl i ys H hi p;refine{z,?_}
 by_cases M:i<xs.length
 ·refine .inr {{xs,xs[i],q,by simp[M]},Y (i+1),fun U H' D=>{xs.length-(i+1),by omega,rfl,M,D},fun x H' y=>?_};obtain⟨t,v,rfl,ht,hv,rfl⟩:=y;exact hs i v t ys H (hv xs q) p ht
 ·have e:i=xs.length:=by omega
  subst e;exact .inl {{xs,q,ay _},hd ys H p}
end
section
variable{prog:aK}{w:bD}{A:bX}{E:af->ak->Prop}{s:ak}
theorem xA{a:aa}{vs:List af}{n:Nat}{b:Bool}{P:Fin->ak->Prop}(ho:s.heap.get? a=some (d7 "list" vs.toArray n))(h2:vs.length<2)
  (h:P (.done (.ret .none)) {s with heap:=sortedHeap s.heap a vs vs.toArray}) :
  aW (aZ prog w) A (iE.«list.sort» {[.ref a],[(jW "reverse",.bool b)]}) P E s:=by
 rw[list_sort_rev];have ha:a<s.heap.objs.size:=aP ho;refine ao (listItems_at ho rfl ?_);refine ao (vB ho rfl ?_);obtain⟨e1,Y⟩:∃e1,(s.heap.update a (df fun _=>#[])).get? a=some (d7 "list" #[] e1):={_,get?_update_seq ho (fun _=>#[])};refine ao (zQ Y rfl ?_);refine ao (wpAny_newTuple ?_);refine ao (vC ?_);refine e8 ?_;have V:(((s.heap.update a (df fun _=>#[])).push (d7 "tuple" vs.toArray 0)).push (d7 "list" #[] 0)).get? a=some (d7 "list" #[] e1):=by
  rw[gx _ _ _ (by rw[wD,gP];exact aQ (jX ha)),gx _ _ _ (by rw[gP];exact aQ ha)];exact Y
 have one:((if b=true then (if b=true then (vs.toArray.zip vs.toArray).reverse else vs.toArray.zip vs.toArray).map (·.2) |>.reverse else (if b=true then (vs.toArray.zip vs.toArray).reverse else vs.toArray.zip vs.toArray).map (·.2)):Array af)=vs.toArray:=by
  match vs,h2 with
  | [],_=>cases b<;>simp
  | [v],_=>cases b<;>simp
 show aW (aZ prog w) A _ P E {s with heap:=((s.heap.update a (df fun _=>#[])).push (d7 "tuple" vs.toArray 0)).push (d7 "list" #[] 0)};dsimp only;have step:∀t:Sem Fin,aW (aZ prog w) A t P E {s with heap:=((s.heap.update a (df fun _=>#[])).push (d7 "tuple" vs.toArray 0)).push (d7 "list" #[] 0)} ->
   aW (aZ prog w) A (if b=true then (do let _ <- Je "list.sort.reverse";t) else t) P E {s with heap:=((s.heap.update a (df fun _=>#[])).push (d7 "tuple" vs.toArray 0)).push (d7 "list" #[] 0)}:=by
  intro t ht
  split
  ·exact ao (Bx ht)
  ·exact ht
 refine step _ ?_;have W:vs.toArray.size<2:=by simpa using h2
 rw[if_pos W,if_pos W];refine ao (aU ?_);rw[StateT.run_pure];refine ao (aU ?_);dsimp only;refine ao (zQ V rfl ?_);have Z:(if b=true then (Array.map (fun x=>x.snd) (arrOf (OT general' (if b=true then (vs.toArray.zip vs.toArray).reverse else vs.toArray.zip vs.toArray) #[] 7 none))).reverse else Array.map (fun x=>x.snd) (arrOf (OT general' (if b=true then (vs.toArray.zip vs.toArray).reverse else vs.toArray.zip vs.toArray) #[] 7 none)))=vs.toArray:=one;rw[Z];refine ao (vB V rfl ?_ (hsz2:=by rw[me];omega));simp only[bne_self_eq_false,tJ,if_false];exact aU h
theorem BE{l:aa}{vs:List af}{b:Bool}{Q:af->ak->Prop}(hl:s.heap.IsList l vs.toArray)(h2:vs.length<2)
  (h:Q (.ref (s.heap.objs.size+1)) {s with heap:=Fj s.heap vs vs.toArray}) :
  aW (aZ prog w) A (yC (.builtin "sorted") [.ref l] [(jW "reverse",.bool b)]) Q E s:=by
 refine Gr kind_sorted plain_sorted entry_sorted (args_sorted_rev _ _) ?_;unfold iE.«sorted»;refine ao (m:=checkCount "sorted" 1 1 _) (aU ?_);refine ao (collect_list hl ?_);refine ao (vC ?_);have hsz:((s.heap.push (d7 "list" #[] 0)).update s.heap.objs.size (df (·++vs.toArray))).objs.size=s.heap.objs.size+1:=by
  rw[gP,wD]
 have Z:(((s.heap.push (d7 "list" #[] 0)).update s.heap.objs.size (df (·++vs.toArray))).push (d7 "list" vs.toArray 0)).get? (s.heap.objs.size+1)=some (d7 "list" vs.toArray 0):=by
  rw[<- hsz];exact cz _ rfl
 show aW _ _ _ _ _ {s with heap:=((s.heap.push (d7 "list" #[] 0)).update s.heap.objs.size (df (·++vs.toArray))).push (d7 "list" vs.toArray 0)};rw[hsz];refine ao (e8 (Lp slot_list_sort {_,Z,rfl} entry_list_sort (xA Z h2 {_,rfl,?_}) (Nl _ _)));exact aU {_,rfl,h}
end
section
variable{X:Cx}{e:cS}{t:TA}{p pos kp bp:Pos}{j:Nat}
end
section
variable{X:Cx}
def tTryE(T:aa->St->Hp->Prop)(tb:TS)(th:TH)(te:TS):TS:=fun D σ H=>tb {D with nx:=te D} σ H/\∀C Z H',Z.length=σ.length->T C Z H'->th C D Z H'
theorem JL{V Y:List c9}{h₀:vv}{hs:List vv}{pos:Pos}{tb te:TS}{th:TH}(T:aa->St->Hp->Prop)(hb:∀pins,PSs (X.tr pins T) V tb)(hh:PHs X (h₀::hs) th)(ho:PSs X Y te)
  (hst:X.stack=X.env::X.outer:=by rfl) (z:X.env.frame=some X.env.locals:=by rfl):PS X (.Try V (h₀::hs) Y [] pos) (tTryE T tb th te):=by
 intro pins s σ H D I h;obtain⟨h1,h2⟩:=h;refine wpAny_Try_except (eV (hb pins [] s σ H {D with nx:=te D} (I.tr T) h1) (fun f M q=>?_) (fun e M q=>?_))
 ·cases f with
  |next=>obtain⟨Z,H',J,q⟩:=q;exact ho pins M Z H' D J.untr q
  |ret v=>obtain⟨v,Z,H',J,r,q⟩:=q;exact⟨v,Z,H',J.untr,r,q⟩
  |brk=>obtain⟨Z,H',J,q⟩:=q;exact⟨Z,H',J.untr,q⟩
  |cont=>obtain⟨Z,H',J,q⟩:=q;exact⟨Z,H',J.untr,q⟩
 ·obtain⟨g,C,B,Z,H',rfl,J,fl,U,t⟩:=q;have O:FlD B (X.env::X.outer) g (.ref C) .none M.heap:=by
   rw[<- hst];exact fl
  refine Cs (by rw[J.ok.frames,hst]) z O fun h4 x4 s4=>?_;refine sL x4 fun h5 W s5=>?_;have J5:=J.landed W.1 U (s4.trans s5);rw[<- hst]at W;exact hh pins _ Z H' D g C B J5 W (yS.land J W.1 U) (h2 C Z H' (by rw[J.len,I.len]) t)
end
abbrev Am(A:bX):bX:={A with handled:=none}
structure qf(P:aK)(w:bD)(K:ae)(mg:Str->Option af)(base:cB)(CX:CXT)(k:Nat)(f:aa)(fd:bU)(ps:List Str)(sp:Sp):Prop where
 len:∀vs H Q E,sp vs H Q E->vs.length=ps.length
 run:∀(A:bX) (outer:List Env) (s:ak) (H:Hp) (args:Args) (us:List af) (vs:List V) (Q:VK) (E:XK),cX k (Am A)->yH P w K mg base A outer s H->uz s fd args (ps.zip us)->c5 vs us->sp vs H Q E ->
  pS (aZ P w) A (.call (.ref f) args) (CR CX outer P w H s Q E) s
theorem Nm{CX:CXT}{P:aK}{w:bD}{K:ae}{mg:Str->Option af}{base:cB}{k:Nat}{f:aa}{name W:Str}{O:Arguments}{D:List c9}{Z:lZ}{dV kV bP pm U ct oc:af}{an od:Option aa}
  {bI:Array (Option af)} {N ps:List Str} {sp:Sp} (lk:K.lookup f=some {oc,od,.func (fj name W O D Z dV kV bP pm an U ct),bI}) (bG:jC K U W=true) (S:bO N ps Z)
  (len:∀vs H Q E,sp vs H Q E->vs.length=ps.length)
  (ca:∀(A:bX) (outer:List Env) (s:ak) (H:Hp) (vs:List V) (Q:VK) (E:XK),sp vs H Q E ->
   ∃t,PSs {tS CX P w K mg base N W Z f U A outer s H E with calm:=false} D t/\t {nx:=fun _ H'=>Q .non H',rt:=Q} (start N vs) H) :
  qf P w K mg base CX (k+1) f (fj name W O D Z dV kV bP pm an U ct) ps sp:=by
 refine{len,fun A outer s H args us vs Q E hr M hb r bS=>?_};have hl:=len _ _ _ _ bS;have KX:K.In s.heap:=M.mod.kin.keeps fun b o e=>(M.bs b o e).1;have bH:s.heap.NoLimit:=M.mod.nolimit.keeps fun b o e=>(M.bs b o e).1;have bW:∀y∈ps.zip us,Z.names.lookup y.1=some .local\/(Z.names.lookup y.1=some .cell/\((Fb (s.heap.objs.size+1) Z.names []).lookup y.1).isSome=true):=fun⟨n,v⟩ hy=>by
  rcases S.par n (p4 hy).1 with q|q
  ·exact .inl q
  ·exact .inr {q,oJ _ _ _ (.inl q)}
 refine IU (A:=A) hr.depth (KX _ _ lk) rfl S.co S.gen rfl (Bi KX bG) (hb _ _ _ _ ?_);refine Bj S.kind bW fun env he s1 x=>?_;subst he;refine{bH.keeps x.toInCall.keep,codeAny_func ?_};obtain⟨t,ht,hq⟩:=ca A outer s H vs Q E bS;have e1:yH P w K mg base (Am A) outer s H:=⟨M.frames,M.mod,M.bs,M.bsz,M.funs,M.frf,M.hok,M.bare⟩;have Y:Inv (tS CX P w K mg base N W Z f U (Am A) outer s H E) [] (start N vs) H s1:=xW S rfl e1 hl r x;have I:Inv {tS CX P w K mg base N W Z f U A outer s H E with calm:=false} [] (start N vs) H s1:=
  {{Y.ok.mod,Y.ok.kind,Y.ok.glob,Y.ok.blt,Y.ok.above,Y.ok.inj,Y.ok.has,Y.ok.cab,fun z=>vt z,Y.ok.frames,Y.ok.stk,Y.ok.exf,Y.ok.bs,Y.ok.bsz,Y.ok.noex,Y.ok.exfs,Y.ok.funs,Y.ok.frf},Y.os,Y.bare,Y.base,Y.loc,Y.cell,Y.free,Y.freeC,Y.pin,Y.hok,Y.len}
 refine eV (ht [] s1 (start N vs) H _ I hq) (fun fl s' hs=>?_) fun e s' hs=>hs;have fin:∀{g:St} {H':Hp} {v:V} {u:af},Inv {tS CX P w K mg base N W Z f U A outer s H E with calm:=false} [] g H' s'->RelV v u->Q v H'->CE outer P w H s Q u s':=
  fun {g H' v u} J rv q=>⟨v,H',J.os,J.bare,J.base,J.hok,rv,q⟩
 cases fl with
 |ret u=>
  obtain⟨v,g,H',J,rv,q⟩:=hs;exact fin J rv q
 |next=>
  obtain⟨g,H',J,q⟩:=hs;exact fin (v:=V.non) (u:=Value.none) J rfl q
 |brk=>
  obtain⟨_,_,_,q⟩:=hs;exact cV q
 |cont=>
  obtain⟨_,_,_,q⟩:=hs;exact cV q
theorem Fun.okH{P:aK}{w:bD}{K:ae}{mg:Str->Option af}{base:cB}{x Z:Str}{st:c9}{f:aa}{fd:bU}{N ps:List Str}{k:Nat}{sp:Sp}(F:Fun K x Z st f fd)(S:bO N ps (aN st))(len:∀vs H Q E,sp vs H Q E->vs.length=ps.length)
  (W:∀(Y:af) (A:bX) (outer:List Env) (s:ak) (H:Hp) (vs:List V) (Q:VK) (E:XK),sp vs H Q E ->
   ∃t,PSs {tS CX0 P w K mg base N Z (aN st) f Y A outer s H E with calm:=false} (jh st) t/\t {nx:=fun _ H'=>Q .non H',rt:=Q} (start N vs) H):qf P w K mg base CX0 (k+1) f fd ps sp:=by
 obtain⟨z,od,kV,J,D,g,Y,ct,I,rfl,M,U⟩:=F.ex;exact Nm M U S len fun A outer s H vs Q E O=>W Y A outer s H vs Q E O
theorem JM{X:Cx}{CX:CXT}{k:Nat}{f:aa}{fd:bU}{ps:List Str}{sp:Sp}{E:XK}{pins:List (aa×Obj)}{σ:St}{H:Hp}{s:ak}{Q:VK}{us:List af}{vs:List V}(F:qf X.prog X.w X.K X.mg X.base CX k f fd ps sp)(hr:cX k (Am X.A))(hb:Binds X.K fd ps [])(hx:lC CX X E)
  (I:Inv X pins σ H s) (r:c5 vs us) (h:sp vs H Q E):aW (aZ X.prog X.w) X.A (yC (.ref f) us) (EP X pins σ Q) X.xe s:=by
 have hl:(us++[]).length=ps.length:=by rw[cq,<- r.length];exact F.len _ _ _ _ h
 have Z:=hb s us I.kIn hl;rw[cq]at Z;refine Bh (nG (F.run X.A X.stack s H {us,[]} us vs Q E hr I.env0 Z r h) fun r s' hq=>?_)
 cases r with
 |error e=>exact hx pins σ H s e s' I hq
 |ok fl=>
  cases fl with
  |ret u=>exact I.after hq
  |next=>exact cV hq
  |brk=>exact cV hq
  |cont=>exact cV hq
section
variable{X:Cx}{CX:CXT}{k:Nat}{ι:Type}{fm C:ι->aa}{fd:ι->bU}{ps:List Str}{sp:ι->Sp}{E:XK}{m:Str}{pos apos:Pos}{o:cS}{ta:TE}
def JN(C:ι->aa)(sp:ι->Sp)(E:XK)(ta:TE):TE:=fun σ H Q=>ta σ H fun x H1=>∃a i,x=.ref a/\H1 a=some (XO a (C i))/\sp i [.ref a] H1 Q E
theorem EC{pl:Sem Bool}(U:PE X o ta)(c:∀i,xy X.K (C i))(hm:∀i,yG X.K (C i) m (fm i))(F:∀i,qf X.prog X.w X.K X.mg X.base CX k (fm i) (fd i) ps (sp i))(hr:cX k (Am X.A))(hb:∀i,Binds X.K (fd i) ps [])(hx:lC CX X E)
  (ht:gf (.Call (.Attribute o m apos) [] [] pos) X.env=(do
   let Y <- gf o X.env
   xm apos.atName
   let (f,first) <- rE [Y] (oC Y m pl)
   Bc pos f first (jm pos (cE [] X.env)) (oI pos (jo [] X.env))):=by rfl) :
  PE X (.Call (.Attribute o m apos) [] [] pos) (JN C sp E ta):=by
 intro pins s σ H Q I h;refine jR (pl:=pl) (thn (U pins s σ H _ I h) fun u O ⟨x,H1,Z,V,a,i,ex,W,q⟩=>?_) ht;subst ex;obtain rfl:u=Value.ref a:=V;obtain⟨ox,J⟩:=(Ni Z.hok W).inst;refine Gp Z.kIn J (c i) (hm i).at_ (beq_iff_eq.mp (hm i).fn) ?_;exact AV (first:=[.ref a]) Z.kIn (hm i).kp (JM (us:=[.ref a]) (vs:=[.ref a]) (F i) hr (hb i) hx Z (.cons rfl .nil) q)
end
end L2
namespace HT
open PySem PyProof.Rows
open PySem.SeqAt
open PySem.AutoSeq1 (wpAny_loadPart')
open PySem.MeetsSeq PySem.MeetsSeq2 PySem.MeetsSeq3
def Nn(A:bX)(s:ak)(x y:af)(g:Bool):Prop:=∀(prog:aK) (w:bD) (E:af->ak->Prop) (Q:af->ak->Prop),Q (.bool g) s->aW (aZ prog w) A (pT .Gt x y) Q E s
theorem JO(l b:aa)(x y:af)(xs ys:List af)(n m:Nat)(dd J:Option aa)(sl sm:Array (Option af))(g:Bool) :
  Meets (iE.«tuple.__gt__» {[.ref l,.ref b],[]})
   (fun A R s=>s.heap.get? l=some {cls:=.type "tuple",dict:=dd,data:=.seq (x::xs).toArray n,slots:=sl}/\s.heap.get? b=some {cls:=.type "tuple",dict:=J,data:=.seq (y::ys).toArray m,slots:=sm}/\EqAt A.in1 s x y false/\Nn A.in1 s x y g/\R (.ok (.ret (.bool g))) s):=
 .of_wp fun prog w A R s h=>by
  obtain⟨hp,gg,d,tk,os⟩:=s;obtain⟨hl,hb,I,M,h⟩:=h;have z:=ja
  wp_walk using dy hl,dy hb,lH _ (fun rest b s'=>b.1=none/\s'=⟨hp,gg,d,tk,os⟩/\∃Z,rest=(x,y)::Z) _
  case turn=>
   rintro⟨D,x'⟩ rest b s' ⟨U,rfl,Z,Y⟩;injection Y with O V;injection O with hy hx;subst hy hx;refine ao (I prog w _ _ ?_);have W:∀(E:af->ak->Prop) (Q:af->ak->Prop),Q (.bool g) ⟨hp,gg,d,tk,os⟩->aW (aZ prog w) A.in1 (pT .Gt _ _) Q E ⟨hp,gg,d,tk,os⟩:=fun E Q q=>M prog w E Q q
   wp_walk using W
   exact{_,rfl,by simpa using h}
  case fin=>
   rintro⟨b1,H⟩ s' ⟨U,rfl,Z,Y⟩
   cases Y
  case h=>
   exact{rfl,rfl,xs.zip ys,by simp}
theorem gtAt_heads{A:bX}{s:ak}{l b:aa}{x y:af}{xs ys:List af}{g:Bool}(hl:qX s.heap l (x::xs).toArray)(hb:qX s.heap b (y::ys).toArray)(hu:A.units<dY)(U:EqAt A.in1 s x y false)(W:Nn A.in1 s x y g):Nn A s (.ref l) (.ref b) g:=fun prog w E Q h=>by
 obtain⟨⟨c1,dd,t1,sl⟩,Y,rfl,n,rfl⟩:=id hl;obtain⟨⟨c2,V,O,sm⟩,Z,rfl,m,rfl⟩:=id hb;exact kL (op:=.Gt) {_,Y,rfl} {_,Z,rfl} zP yZ (x9 _ _) (JO l b x y xs ys n m dd V sl sm g)
  {Y,Z,U,W,show Value.bool g≠Value.notImplemented/\Q (.bool g) s from{(fun x=>nomatch x),h}} hu
end HT
namespace L2
open PySem PySem.Spec PyProof.Rows
section
variable{X:Cx}
def rGtH:R2:=fun x y H Q=>∃a b Z kb ns ms W Y,x=.ref a/\y=.ref b/\H a=some (.tup (.ref Z::W))/\H b=some (.tup (.ref kb::Y))/\H Z=some (.tup (ns.map V.int))/\H kb=some (.tup (ms.map V.int))/\ns≠ms/\Q (.bl (HT.lexLt ms ns)) H
theorem Np(hu:X.A.units+1<dY):OpR X (cN .Gt) rGtH:=by
 intro pins s σ H x y v u Q I z U h;obtain⟨a,b,ka,kb,ns,ms,ra,rb,rfl,rfl,ha,hb,Y,W,ne,q⟩:=h
 cases z
 cases U;obtain⟨bz,r1,J,_⟩:=I.tuple (SqT.of ha);obtain⟨V,r2,p2,_⟩:=I.tuple (SqT.of hb);obtain⟨k1,D,q1,_⟩:=I.tuple (SqT.of Y);obtain⟨k2,s2,g,_⟩:=I.tuple (SqT.of W);have i1:dZ k1.toArray.toList ns:=intsAre_of D;have i2:dZ k2.toArray.toList ms:=intsAre_of s2;have Z:X.A.in1.units<dY:=hu;have e:=ya (A:=X.A.in1) I.hok Z Y W;rw[decide_eq_false ne]at e
 cases r1 with
 |cons O r1=>
  cases r2 with
  |cons M r2=>
   cases O
   cases M;exact HT.gtAt_heads J p2 (by omega) e (fun prog w E Q h=>HT.gt_tup q1 g i1 i2 Z h) _ _ _ _ {.bl (HT.lexLt ms ns),H,I,rfl,q}
end
end L2
namespace L2
open PySem PySem.W PyProof.Rows HT
def iP(a b:List Int):Prop:=lexLt b a=false
theorem iP.refl(a:List Int):iP a a:=Bz a
theorem iP.trans{a b c:List Int}(h1:iP a b)(h2:iP b c):iP a c:=by
 unfold iP at *
 cases e:lexLt c a with
 |false=>rfl
 |true=>
  cases f:lexLt a b with
  |true=>
   rw[lx_trans e f]at h2
   cases h2
  |false=>
   rw[sO f h1]at e;rw[e]at h2
   cases h2
theorem iP.of_lt{a b:List Int}(h:lexLt a b=true):iP a b:=lx_asym h
theorem Gs{a b c:List Int}(h:lexLt a b=true)(h2:iP b c):lexLt a c=true:=by
 cases e:lexLt a c with
 |true=>rfl
 |false=>
  have z:iP c a:=e;have y:=h2.trans z;unfold iP at y;rw[h]at y
  cases y
theorem iP.anti{a b:List Int}(h1:iP a b)(h2:iP b a):a=b:=sO h2 h1
def KR{Z:Type}(r:Nat->List Int)(n:Nat):KasT Z->(Z->Prop)->Prop
 |.ret a,Q=>Q a
 |.ask i j k,Q=>(i<n/\j<n/\i≠j)/\KR r n (k (lexLt (r i) (r j))) Q
section
variable{r:Nat->List Int}{n:Nat}
theorem KR.bind{Z Y:Type}{f:Z->KasT Y}{Q:Y->Prop}:∀{t:KasT Z},KR r n t (fun a=>KR r n (f a) Q)->KR r n (t.bind f) Q
 |.ret _,h=>h
 |.ask _ _ k,⟨h1,W⟩=>{h1,KR.bind W}
theorem KR.sound{Y:Type}{Z:Nat->Nat->(Bool->ak->Prop)->ak->Prop}{s:ak}{Q:Y->Prop}(hc:∀i j (C:Bool->ak->Prop),i<n->j<n->i≠j->C (lexLt (r i) (r j)) s->Z i j C s):∀{t:KasT Y},KR r n t Q->t.kasWp Z (fun a s'=>s'=s/\Q a) s
 |.ret _,h=>⟨rfl,h⟩
 |.ask i j k,⟨⟨h1,h2,W⟩,V⟩=>hc i j _ h1 h2 W (KR.sound hc V)
theorem JP{Z:Type}{a b:KasT Z}{Q:Z->Prop}(h:KR r n a Q):KR r n (if true=true then a else b) Q:=by
 rw[if_pos rfl];exact h
theorem JQ{Z:Type}{a b:KasT Z}{Q:Z->Prop}(h:KR r n b Q):KR r n (if false=true then a else b) Q:=by
 rw[if_neg (by simp)];exact h
def Rk(r:Nat->List Int)(p:Array Nat)(i:Nat):List Int:=r (p.getD i 0)
def Pm(n:Nat)(p:Array Nat):Prop:=p.Perm (jz n).toArray
theorem Pm.size{p:Array Nat}(h:Pm n p):p.size=n:=by
 have:=h.size_eq;simpa using this
theorem Pm.lt{p:Array Nat}(h:Pm n p){i:Nat}(hi:i<n):p.getD i 0<n:=by
 have hs:i<p.size:=by rw[h.size];exact hi
 have e:p.getD i 0=p[i]:=by simp[pJ,hs]
 rw[e];have m:p[i]∈p.toList:=by simp
 have z:=(iQ.mp h).mem_iff.mp m;simpa using z
theorem Pm.two{p:Array Nat}(h:Pm n p){i j:Nat}(hi:i<n)(Z:j<n)(ne:i≠j):p.getD i 0<n/\p.getD j 0<n/\p.getD i 0≠p.getD j 0:=by
 refine{h.lt hi,h.lt Z,?_};have nd:p.toList.Nodup:=(iQ.mp h).nodup_iff.mpr (by simpa using List.nodup_range);have h1:i<p.size:=by rw[h.size];exact hi
 have h2:j<p.size:=by rw[h.size];exact Z
 have e1:p.getD i 0=p.toList[i]'(by simpa using h1):=by simp[pJ,h1]
 have Y:p.getD j 0=p.toList[j]'(by simpa using h2):=by simp[pJ,h2]
 rw[e1,Y];intro z
 rcases Gu ne with c|c
 ·exact dC.mp nd i j _ _ c z
 ·exact dC.mp nd j i _ _ c z.symm
theorem rM(p:Array Nat)(i:Nat):p.getD i 0=(p[i]?).getD 0:=by
 by_cases h:i<p.size
 ·simp[pJ,h]
 ·simp[pJ,h]
theorem Pm.rev{p:Array Nat}(h:Pm n p)(i j:Nat):Pm n (OU p i j):=(mirror_perm _ _ _ _).trans h
theorem Pm.bub{p:Array Nat}(h:Pm n p)(i j:Nat):Pm n (bubble p i j):=(bubble_perm _ _ _).trans h
theorem BF{p:Array Nat}{i j:Nat}(Z:j<=p.size)(k:Nat):Rk r (OU p i j) k=if i<=k/\k<j then Rk r p (i+j-1-k) else Rk r p k:=by
 unfold Rk OU;rw[rM,getElem?_mirror_all Z,rM,rM]
 split<;>rfl
theorem Gv{p:Array Nat}{Z d:Nat}(hs:Z<p.size)(hd:d<=Z)(k:Nat):Rk r (bubble p Z d) k=if k=Z-d then Rk r p Z else if Z-d<k/\k<=Z then Rk r p (k-1) else Rk r p k:=by
 unfold Rk;rw[rM,getElem?_bubble hs d hd,rM,rM,rM]
 repeat' split
 all_goals rfl
theorem t8{p:Array Nat}{i j:Nat}(Y:j<=p.size)(Z:∀k,i<=k->k<j->Rk r p k=Rk r p (j-1))(k:Nat):Rk r (OU p i j) k=Rk r p k:=by
 rw[BF Y]
 split
 ·rw[Z k (by omega) (by omega),Z _ (by omega) (by omega)]
 ·rfl
def Srt(r:Nat->List Int)(p:Array Nat)(m:Nat):Prop:=∀i j,i<=j->j<m->iP (Rk r p i) (Rk r p j)
def Fal(r:Nat->List Int)(p:Array Nat)(m:Nat):Prop:=∀i j,i<=j->j<m->iP (Rk r p j) (Rk r p i)
theorem Srt.one(p:Array Nat):Srt r p 1:=fun i j h1 h2=>by
 have:i=j:=by omega
 subst this;exact iP.refl _
theorem Srt.up{p:Array Nat}{x:Nat}(h1:1<=x)(h:Srt r p x)(l:iP (Rk r p (x-1)) (Rk r p x)):Srt r p (x+1):=fun i j Z Y=>by
 by_cases c:j<x
 ·exact h i j Z c
 ·have:j=x:=by omega
  subst this
  by_cases d:i=j
  ·subst d;exact iP.refl _
  ·exact (h i (j-1) (by omega) (by omega)).trans l
theorem Fal.up{p:Array Nat}{x:Nat}(h1:1<=x)(h:Fal r p x)(l:iP (Rk r p x) (Rk r p (x-1))):Fal r p (x+1):=fun i j Z Y=>by
 by_cases c:j<x
 ·exact h i j Z c
 ·have:j=x:=by omega
  subst this
  by_cases d:i=j
  ·subst d;exact iP.refl _
  ·exact l.trans (h i (j-1) (by omega) (by omega))
theorem Fal.eq{p Z:Array Nat}{m:Nat}(e:∀k,Rk r Z k=Rk r p k)(h:Fal r p m):Fal r Z m:=fun i j a b=>by
 rw[e,e];exact h i j a b
theorem BG{p:Array Nat}(hp:Pm n p){N:Nat}(Y:N<=n){Q:Nat->Prop}(h:∀q,1<=q->q<=N->Srt r p q->(q=N\/lexLt (Rk r p q) (Rk r p (q-1))=true)->Q q):∀(f m:Nat),1<=m->m+f=N->Srt r p m->KR r n (kas_asc p f m) Q
 |0,m,h1,Z,hs=>h m h1 (by omega) hs (.inl (by omega))
 |f+1,m,h1,Z,hs=>by
  refine{hp.two (by omega) (by omega) (by omega),?_}
  cases e:lexLt (r (p.getD m 0)) (r (p.getD (m-1) 0)) with
  |true=>exact h m h1 (by omega) hs (.inr e)
  |false=>exact BG hp Y h f (m+1) (by omega) (by omega) (hs.up h1 e)
theorem vD{N:Nat}(Y:N<=n){Q:Array Nat×Nat×Nat->Prop}{m0:Nat}(h:∀p m q,Pm n p->m0<=m->m<=N->Fal r p m->q+1<=m->(∀i,m-(q+1)<=i->i<m->Rk r p i=Rk r p (m-1))->Q (p,m,q)) :
  ∀(f:Nat) (p:Array Nat) (m q:Nat),Pm n p->1<=m->m0<=m->m+f=N->Fal r p m->q+1<=m->(∀i,m-(q+1)<=i->i<m->Rk r p i=Rk r p (m-1))->KR r n (kas_desc f p m q) Q
 |0,p,m,q,hp,h1,h0,W,hs,hq,Z=>h p m q hp h0 (by omega) hs hq Z
 |f+1,p,m,q,hp,h1,h0,W,hs,hq,Z=>by
  refine{hp.two (by omega) (by omega) (by omega),?_};have hsz:m<=p.size:=by rw[hp.size];omega
  cases e:lexLt (r (p.getD m 0)) (r (p.getD (m-1) 0)) with
  |true=>
   refine JP ?_;have up:=hs.up h1 (iP.of_lt e)
   by_cases c:q>0
   ·rw[if_pos c];exact vD Y h f _ (m+1) 0 (hp.rev _ _) (by omega) (by omega) (by omega) (up.eq (t8 hsz Z)) (by omega) (fun i a b=>by congr 1;omega)
   ·rw[if_neg c];exact vD Y h f p (m+1) 0 hp (by omega) (by omega) (by omega) up (by omega) (fun i a b=>by congr 1;omega)
  |false=>
   refine JQ ?_;refine{hp.two (by omega) (by omega) (by omega),?_}
   cases d:lexLt (r (p.getD (m-1) 0)) (r (p.getD m 0)) with
   |true=>
    refine JP ?_;exact h p m q hp h0 (by omega) hs hq Z
   |false=>
    refine JQ ?_;have eq:Rk r p m=Rk r p (m-1):=sO e d;refine vD Y h f p (m+1) (q+1) hp (by omega) (by omega) (by omega) (hs.up h1 (by rw[eq];exact iP.refl _)) (by omega) (fun i a b=>?_);rw[show m+1-1=m by omega]
    by_cases c:i=m
    ·subst c;rfl
    ·rw[eq];exact Z i (by omega) (by omega)
theorem An{N:Nat}(Z:N<=n){Q:Nat×Array Nat->Prop}(h:∀m p,Pm n p->1<=m->m<=N->Srt r p m->Q (m,p)){p:Array Nat}{m:Nat}(hp:Pm n p)(h1:1<=m)(hm:m<=N)(hs:Fal r p m):KR r n (kas_tail3 m N p) Q:=by
 unfold kas_tail3;have hsz:m<=p.size:=by rw[hp.size];omega
 refine KR.bind (BG (hp.rev 0 m) Z (fun q a b c _=>?_) (N-m) m h1 (by omega) fun i j Y W=>?_)
 ·exact h q _ (hp.rev 0 m) a b c
 ·rw[BF hsz,BF hsz,if_pos (by omega),if_pos (by omega)];exact hs _ _ (by omega) (by omega)
theorem uJ{N:Nat}(W:N<=n){Q:Nat×Array Nat->Prop}(h:∀m p,Pm n p->1<=m->m<=N->Srt r p m->Q (m,p)){p:Array Nat}{m:Nat}(hp:Pm n p)(hm:m+1<=N)(hs:Fal r p (m+1)):KR r n (kas_descPart m N p) Q:=by
 unfold kas_descPart;refine KR.bind (vD (m0:=m+1) W (fun V U q Z a b Y hq O=>?_) (N-(m+1)) p (m+1) 0 hp (by omega) (ay _) (by omega) hs (by omega) (fun i a b=>by congr 1;omega));dsimp only;have hsz:U<=V.size:=by rw[Z.size];omega
 by_cases c:q>0
 ·rw[if_pos c];exact An W h (Z.rev _ _) (by omega) b (Y.eq (t8 hsz O))
 ·rw[if_neg c];exact An W h Z (by omega) b Y
theorem Gw{Q:Nat×Array Nat->Prop}(h:∀m p,Pm n p->1<=m->m<=n->Srt r p m->Q (m,p)){p:Array Nat}(hp:Pm n p)(h1:1<=n):KR r n (kas_count n p) Q:=by
 unfold kas_count;refine KR.bind (BG hp (ay n) (fun m V U hs W=>?_) (n-1) 1 (ay _) (by omega) (Srt.one p))
 by_cases c:m=n
 ·rw[if_pos (by simpa using c)];exact h m p hp V U hs
 ·rw[if_neg (by simpa using c)];have Y:=W.resolve_left c
  by_cases g:m>1
  ·rw[if_pos g];refine{hp.two (by omega) (by omega) (by omega),?_}
   cases e:lexLt (r (p.getD 0 0)) (r (p.getD (m-1) 0)) with
   |true=>
    refine JP ?_;exact h m p hp V U hs
   |false=>
    refine JQ ?_;have hsz:m<=p.size:=by rw[hp.size];omega
    have Z:∀k,0<=k->k<m->Rk r p k=Rk r p (m-1):=fun k _ hk=>by
     have a1:=hs 0 k (by omega) hk;have a2:=hs k (m-1) (by omega) (by omega);exact a2.anti (iP.trans (show iP (Rk r p (m-1)) (Rk r p 0) from e) a1)
    refine uJ (ay n) h (hp.rev _ _) (by omega) (Fal.eq (t8 hsz Z) ?_);refine Fal.up (by omega) (fun i j M O=>?_) (iP.of_lt Y);rw[Z i (by omega) (by omega),Z j (by omega) O];exact iP.refl _
  ·rw[if_neg g];have:m=1:=by omega
   subst this;exact uJ (ay n) h hp (by omega) (Fal.up (ay _) (fun i j a b=>by
    have:i=j:=by omega
    subst this;exact iP.refl _) (iP.of_lt Y))
theorem wF{p:Array Nat}{k:Nat}(hp:Pm n p)(hk:k<n)(hs:Srt r p k){Q:Nat->Prop}(h:∀l,l<=k->(∀i,i<l->iP (Rk r p i) (Rk r p k))->(∀i,l<=i->i<k->lexLt (Rk r p k) (Rk r p i)=true)->Q l) :
  ∀(f l q:Nat),l<=q->q<=k->q-l<=f->(∀i,i<l->iP (Rk r p i) (Rk r p k))->(∀i,q<=i->i<k->lexLt (Rk r p k) (Rk r p i)=true)->KR r n (kas_place p k f l q) Q
 |0,l,q,a,b,c,lo,hi=>by
  have:l=q:=by omega
  subst this;exact h l b lo hi
 |f+1,l,q,a,b,c,lo,hi=>by
  unfold kas_place
  by_cases d:l≥q
  ·rw[if_pos d];have:l=q:=by omega
   subst this;exact h l b lo hi
  ·rw[if_neg d];refine{hp.two hk (by omega) (by omega),?_}
   cases e:lexLt (r (p.getD k 0)) (r (p.getD ((l+q)/2) 0)) with
   |true=>
    refine JP ?_;exact wF hp hk hs h f l _ (by omega) (by omega) (by omega) lo fun i h1 h2=>Gs e (hs _ _ h1 h2)
   |false=>
    refine JQ ?_;exact wF hp hk hs h f _ q (by omega) (by omega) (by omega) (fun i h1=>(hs i ((l+q)/2) (by omega) (by omega)).trans e) hi
theorem GH{Q:Array Nat->Prop}(h:∀p,Pm n p->Srt r p n->Q p):∀(f:Nat) (p:Array Nat) (k:Nat),Pm n p->k+f=n->Srt r p k->KR r n (kas_bin f p k) Q
 |0,p,k,hp,Y,hs=>h p hp (by rw[<- Y];exact hs)
 |f+1,p,k,hp,Y,hs=>by
  unfold kas_bin;refine KR.bind (wF hp (by omega) hs (fun l hl lo hi=>?_) k 0 k (bV _) (ay _) (by omega) (fun i h=>absurd h (by omega)) (fun i a b=>absurd b (by omega)));refine GH h f _ (k+1) (hp.bub _ _) (by omega) fun i j W V=>?_;have Z:k<p.size:=by rw[hp.size];omega
  rw[Gv Z (by omega),Gv Z (by omega),show k-(k-l)=l by omega]
  repeat' split
  all_goals first
   |(exfalso;omega)
   |exact iP.refl _
   |exact lo _ (by omega)
   |exact iP.of_lt (hi _ (by omega) (by omega))
   |exact hs _ _ (by omega) (by omega)
theorem JR(h1:1<=n):KR r n (kas_sort n) (fun p=>Pm n p/\Srt r p n):=by
 unfold kas_sort;refine KR.bind (Gw (fun m p hp Y Z hs=>?_) (Array.Perm.refl _) h1);dsimp only
 by_cases c:m<n
 ·rw[if_pos c];refine GH (fun p hp hs=>⟨hp,hs⟩) _ p (max m 1) hp (by omega) ?_;rw[show max m 1=m by omega];exact hs
 ·rw[if_neg c];have:m=n:=by omega
  subst this;exact⟨hp,hs⟩
end
end L2
namespace L2
open PySem PySem.W PySem.Spec PyProof.Rows HT
section
variable{prog:aK}{w:bD}{A:bX}{E:af->ak->Prop}{s:ak}
theorem vd{h0:cB}{a:aa}{vs:List af}{n:Nat}{b:Bool}{P:Fin->ak->Prop}{r:Nat->List Int}(ho:s.heap.get? a=some (d7 "list" vs.toArray n))(k0:∀c o,h0.get? c=some o->s.heap.get? c=some o)(H:h0.get? a=none)(h2:2<=vs.length)(U:vs.length<64)
  (hk:∀h':cB,(∀c o,h0.get? c=some o->h'.get? c=some o)->∀Q:SortKind->ak->Prop,Q (A2 false) {s with heap:=h'}->aW (aZ prog w) A (keyKind' vs.toArray) Q E {s with heap:=h'})
  (hc:∀h':cB,(∀c o,h0.get? c=some o->h'.get? c=some o)->∀i j (C:Bool->ak->Prop),i<vs.length->j<vs.length->i≠j->C (lexLt (r i) (r j)) {s with heap:=h'}->kas_ask prog w A (A2 false) (lK b vs) i j C {s with heap:=h'})
  (h:∀p,Pm vs.length p->Srt r p vs.length->P (.done (.ret .none)) {s with heap:=sortedHeap s.heap a vs (uK (lK b (p.toList.map fun i=>(lK b vs).getD i Value.none)))}) :
  aW (aZ prog w) A (iE.«list.sort» ⟨[.ref a],[(jW "reverse",.bool b)]⟩) P E s:=by
 rw[list_sort_rev];have ha:a<s.heap.objs.size:=aP ho;refine ao (listItems_at ho rfl ?_);refine ao (vB ho rfl ?_);obtain⟨e1,O⟩:∃e1,(s.heap.update a (df fun _=>#[])).get? a=some (d7 "list" #[] e1):=⟨_,get?_update_seq ho (fun _=>#[])⟩;refine ao (zQ O rfl ?_);refine ao (wpAny_newTuple ?_);refine ao (vC ?_);refine e8 ?_;have J:(((s.heap.update a (df fun _=>#[])).push (d7 "tuple" vs.toArray 0)).push (d7 "list" #[] 0)).get? a=some (d7 "list" #[] e1):=by
  rw[gx _ _ _ (by rw[wD,gP];exact aQ (jX ha)),gx _ _ _ (by rw[gP];exact aQ ha)];exact O
 have Y:∀c o,h0.get? c=some o->(((s.heap.update a (df fun _=>#[])).push (d7 "tuple" vs.toArray 0)).push (d7 "list" #[] 0)).get? c=some o:=fun c o e=>by
  have lt:c<s.heap.objs.size:=aP (k0 c o e);have ne:c≠a:=fun z=>by
   rw[z,H]at e
   cases e
  rw[gx _ _ _ (by rw[wD,gP];exact aQ (jX lt)),gx _ _ _ (by rw[gP];exact aQ lt),ED _ _ _ _ ne];exact k0 c o e
 show aW (aZ prog w) A _ P E {s with heap:=((s.heap.update a (df fun _=>#[])).push (d7 "tuple" vs.toArray 0)).push (d7 "list" #[] 0)};dsimp only;have step:∀t:Sem Fin,aW (aZ prog w) A t P E {s with heap:=((s.heap.update a (df fun _=>#[])).push (d7 "tuple" vs.toArray 0)).push (d7 "list" #[] 0)} ->
   aW (aZ prog w) A (if b=true then (do let _ <- Je "list.sort.reverse";t) else t) P E {s with heap:=((s.heap.update a (df fun _=>#[])).push (d7 "tuple" vs.toArray 0)).push (d7 "list" #[] 0)}:=by
  intro t ht
  split
  ·exact ao (Bx ht)
  ·exact ht
 refine step _ ?_;have M:¬vs.toArray.size<2:=by
  rw[aG];omega
 rw[if_neg M,if_neg M];refine ao (hk _ Y _ ?_);rw[kat_pairs b rfl];have g:=kat_len b vs;refine ao (eV (kat_run (ks:=lK b vs) (vs:=lK b vs) (κ:=A2 false) (Q:=fun Z s'=>∃p:Array Nat,arrOf Z=p.map (kas_item ((lK b vs).toArray.zip (lK b vs).toArray))/\failedOf Z=none/\s'={s with heap:=((s.heap.update a (df fun _=>#[])).push (d7 "tuple" vs.toArray 0)).push (d7 "list" #[] 0)}/\Pm vs.length p/\Srt r p vs.length) (G:=fun p s'=>s'={s with heap:=((s.heap.update a (df fun _=>#[])).push (d7 "tuple" vs.toArray 0)).push (d7 "list" #[] 0)}/\Pm vs.length p/\Srt r p vs.length) rfl (by rw[g];exact h2) (by rw[g];exact U) (fun p Z s' hp W D hg=>⟨p,W,D,hg⟩) (by
  rw[g];exact KR.sound (hc _ Y) (JR (by omega)))) ?_ fun _ _ e=>e)
 rintro⟨⟨⟩,Z⟩ s' ⟨p,W,D,rfl,V,I⟩;dsimp only;have out:=kat_snds (ks:=lK b vs) (vs:=lK b vs) rfl W;refine ao (zQ J rfl ?_);rw[out,kat_outs];have lp:(lK b (p.toList.map fun i=>(lK b vs).getD i Value.none)).length<64:=by
  rw[kat_len,av,gB,V.size];exact U
 refine ao (vB J rfl ?_ (hsz2:=by rw[aG,me];omega));rw[D];simp only[bne_self_eq_false,tJ,if_false];exact aU (h p V I)
theorem sorted_N{l:aa}{vs:List af}{b:Bool}{Q:af->ak->Prop}{r:Nat->List Int}(hl:s.heap.IsList l vs.toArray)(h2:2<=vs.length)(W:vs.length<64)
  (hk:∀(Y:bX) (E:af->ak->Prop) (h':cB),Y.units<=A.units+2->(∀c o,s.heap.get? c=some o->h'.get? c=some o)->∀Q:SortKind->ak->Prop,Q (A2 false) {s with heap:=h'}->aW (aZ prog w) Y (keyKind' vs.toArray) Q E {s with heap:=h'})
  (hc:∀(Y:bX) (h':cB),Y.units<=A.units+2->(∀c o,s.heap.get? c=some o->h'.get? c=some o)->∀i j (C:Bool->ak->Prop),i<vs.length->j<vs.length->i≠j->C (lexLt (r i) (r j)) {s with heap:=h'}->kas_ask prog w Y (A2 false) (lK b vs) i j C {s with heap:=h'})
  (h:∀p,Pm vs.length p->Srt r p vs.length->Q (.ref (s.heap.objs.size+1)) {s with heap:=Fj s.heap vs (uK (lK b (p.toList.map fun i=>(lK b vs).getD i Value.none)))}) :
  aW (aZ prog w) A (yC (.builtin "sorted") [.ref l] [(jW "reverse",.bool b)]) Q E s:=by
 refine Gr kind_sorted plain_sorted entry_sorted (args_sorted_rev _ _) ?_;unfold iE.«sorted»;refine ao (m:=checkCount "sorted" 1 1 _) (aU ?_);refine ao (collect_list hl ?_);refine ao (vC ?_);have hsz:((s.heap.push (d7 "list" #[] 0)).update s.heap.objs.size (df (·++vs.toArray))).objs.size=s.heap.objs.size+1:=by
  rw[gP,wD]
 have Z:(((s.heap.push (d7 "list" #[] 0)).update s.heap.objs.size (df (·++vs.toArray))).push (d7 "list" vs.toArray 0)).get? (s.heap.objs.size+1)=some (d7 "list" vs.toArray 0):=by
  rw[<- hsz];exact cz _ rfl
 have k0:∀c o,s.heap.get? c=some o->(((s.heap.push (d7 "list" #[] 0)).update s.heap.objs.size (df (·++vs.toArray))).push (d7 "list" vs.toArray 0)).get? c=some o:=fun c o e=>by
  have lt:c<s.heap.objs.size:=aP e;rw[gx _ _ _ (by rw[hsz];exact aQ (jX lt)),ED _ _ _ _ (aQ lt),gx _ _ _ (aQ lt)];exact e
 have U:s.heap.get? (s.heap.objs.size+1)=none:=by
  cases e:s.heap.get? (s.heap.objs.size+1) with
  |none=>rfl
  |some o=>
   have:=aP e;exact absurd this (Nat.not_lt.mpr (gs _))
 show aW _ _ _ _ _ {s with heap:=((s.heap.push (d7 "list" #[] 0)).update s.heap.objs.size (df (·++vs.toArray))).push (d7 "list" vs.toArray 0)};rw[hsz];refine ao (e8 (Lp slot_list_sort {_,Z,rfl} entry_list_sort (vd (h0:=s.heap) (r:=r) Z k0 U h2 W (fun h' k Q q=>hk _ _ h' (ay _) k Q q) (fun h' k i j C hi V ne q=>hc _ h' (ay _) k i j C hi V ne q) fun p a1 a2=>{_,rfl,?_}) (Nl _ _)));exact aU {_,rfl,h p a1 a2}
end
def BH(H:Hp)(z:V×List Int):Prop:=∃a k Z,z.1=.ref a/\H a=some (.tup (.ref k::Z))/\H k=some (.tup (z.2.map V.int))
theorem ua:∀{xs:List V} {Z:List af},c5 xs Z->∀(i:Nat),i<xs.length->∃v,Z.getD i Value.none=v/\∃x,xs[i]?=some x/\RelV x v
 |_,_,.nil,i,h=>absurd h (by simp)
 |_,_,.cons a b,0,h=>{_,rfl,_,rfl,a}
 |_,_,.cons a b,i+1,h=>by
  obtain⟨v,e,x,h1,h2⟩:=ua b i (by simpa using h);exact{v,by simpa using e,x,by simpa using h1,h2}
theorem yc{xs:List V}{Z:List af}(h:c5 xs Z)(d:V):∀(is:List Nat),(∀i∈is,i<xs.length)->c5 (is.map fun i=>(xs.getD i d)) (is.map fun i=>Z.getD i Value.none)
 | [],_=>.nil
 |i::is,hb=>by
  obtain⟨v,e,x,h1,h2⟩:=ua h i (hb i aC);refine .cons ?_ (yc h d is fun j Y=>hb j (ag _ Y));show RelV (xs.getD i d) (Z.getD i Value.none);rw[e,dU,h1];exact h2
theorem BI{Z:Type}(l:List Z)(d:Z):(jz l.length).map (fun i=>l.getD i d)=l:=by
 apply uI;intro i;rw[cC]
 by_cases h:i<l.length
 ·rw[List.getElem?_range h,GJ,dU,aE h];rfl
 ·rw[eU (by simpa using h),eU (by omega)];rfl
def pK:V×List Int:=(.non,[])
theorem GK{zs:List (V×List Int)}(nd:(zs.map (·.2)).Nodup){p:Array Nat}(hp:Pm zs.length p)(hs:Srt (fun i=>(zs.reverse.getD i pK).2) p zs.length) :
  ((p.toList.map fun i=>zs.reverse.getD i pK).reverse).Perm zs/\((p.toList.map fun i=>zs.reverse.getD i pK).reverse).Pairwise (fun a b=>HT.lexLt b.2 a.2=true):=by
 have pl:p.toList.Perm (jz zs.length):=by simpa using iQ.mp hp
 have Y:(p.toList.map fun i=>zs.reverse.getD i pK).Perm zs:=by
  refine (pl.map _).trans ?_;have e:=BI zs.reverse pK;rw[ji]at e;rw[e];exact uL _
 refine{(uL _).trans Y,List.pairwise_reverse.mpr (dC.mpr fun i j hi W Z=>?_)};have U:((p.toList.map fun i=>zs.reverse.getD i pK).map (·.2)).Nodup:=(Y.map _).nodup_iff.mpr nd;have li:i<zs.length:=by
  have:=Y.length_eq;omega
 have O:j<zs.length:=by
  have:=Y.length_eq;omega
 have at_:∀k (h:k<(p.toList.map fun i=>zs.reverse.getD i pK).length),(p.toList.map fun i=>zs.reverse.getD i pK)[k].2=Rk (fun i=>(zs.reverse.getD i pK).2) p k:=fun k h=>by
  have hk:k<p.size:=by simpa using h
  unfold Rk;simp[pJ,hk]
 have le:=hs i j (l8 Z) O;have ne:=dC.mp U i j (by simpa using hi) (by simpa using W) Z;rw[at_ i hi,at_ j W];refine lx_of_not le fun z=>ne ((jd _).trans (Eq.trans ?_ (jd _).symm));rw[at_ i hi,at_ j W];exact z.symm
section
variable{X:Cx}{e:cS}{t:TA}{p pos kp bp:Pos}{j:Nat}
def Nq(t:TA):TE:=fun σ H Q=>t σ H fun vs H1=>∃(p:aa) (zs:List (V×List Int)),vs=[.ref p]/\H1 p=some (.lst (zs.map (·.1)))/\(∀z∈zs,BH H1 z)/\(zs.map (·.2)).Nodup/\zs.length<64 /\
 ∀(l:aa) (Z:List (V×List Int)),H1 l=none->Z.Perm zs->Z.Pairwise (fun a b=>HT.lexLt b.2 a.2=true)->Q (.ref l) (upd H1 l (.lst (Z.map (·.1))))
theorem yd{s:ak}{H:Hp}{P:aK}{w:bD}(ok:HOk P w H s.heap):∀{zs:List (V×List Int)} {Z:List af},c5 (zs.map (·.1)) Z->(∀z∈zs,BH H z)->∃fs,KatTups s.heap Z fs/\fs.length=Z.length/\∀f∈fs,∃k o,f=.ref k/\s.heap.get? k=some o/\o.cls=.type "tuple"
 | [],_,r,_=>by
  cases r;exact{[],KatTups.nil,rfl,fun f W=>by cases W}
 |z::zs,_,r,U=>by
  cases r with
  |cons a b=>
   obtain⟨fs,h1,h2,J⟩:=yd ok b fun z Y=>U z (ag _ Y);obtain⟨D,k,ra,e1,M,e3⟩:=U z aC;have a:RelV z.1 _:=a;rw[e1]at a
   cases a;obtain⟨us,r1,o1,g1,c1,n1,d1⟩:=gv ok M;obtain⟨g,r2,O,I,c2,n2,d2⟩:=gv ok e3
   cases r1 with
   |cons a1 b1=>
    cases a1;refine{.ref k::fs,KatTups.cons g1 c1 d1 rfl h1,by rw[aR,aR,h2],fun f W=>?_}
    rcases ar.mp W with y|y
    ·exact⟨k,O,y,I,c2⟩
    ·exact J f y
theorem GV{J:cS}(hu:X.A.units+5<dY)(hg:Gl X "sorted")(hm:X.mg "sorted"=none)(ha:PA X [e] t)(hk:PE X J (tC (.bl true)))(he:jm pos (cE [e] X.env)=[(false,gf e X.env)]:=by rfl)
  (el:(oI pos (jo [{some "reverse",J,kp}] X.env)).all (·.1.isSome)=true:=by rfl) (ef:(oI pos (jo [{some "reverse",J,kp}] X.env)).any (·.1.isNone)=false:=by rfl)
  (eh:(oI pos (jo [{some "reverse",J,kp}] X.env)).filterMap (·.1)=[jW "reverse"]:=by rfl) :
  PE X (.Call (.Name "sorted" p) [e] [{some "reverse",J,kp}] pos) (Nq t):=by
 intro pins s σ H Q I h;refine iD (rD I hg hm boot_sorted ?_);refine callWith_kw (thn (ha pos pins s σ H _ I h) fun us s1 ⟨vs,H1,I1,r1,q1⟩=>?_) (by rw[he];rfl) (by rw[he];rfl) el ef;obtain⟨l,zs,rfl,hl,hz,nd,eb,q⟩:=q1;obtain⟨u,rfl,ru⟩:=vals1 r1
 cases ru;refine kws_cons (thn (hk pins s1 σ H1 (fun v H2=>v=.bl true/\H2=H1) I1 (show _/\_ from⟨rfl,rfl⟩)) fun v s2 ej=>kws_nil ?_);obtain⟨y,H2,O,r2,e1,e2⟩:=ej;subst e1 e2
 cases r2;rw[eh];obtain⟨Z,n,rv,ho,ec⟩:=O.lst hl;have Y:=rv.length;rw[av]at Y;show aW _ _ (yC (.builtin "sorted") [.ref l] [(jW "reverse",.bool true)]) _ _ _
 by_cases c:Z.length<2
 ·refine BE (l:=l) (vs:=Z) {_,ho,rfl,n,rfl} c ?_;obtain⟨ep,U⟩:=sortedAll_at s2.heap Z Z.toArray;have two:2<=aB:=by decide
  have z:=O.laid (a:=s2.heap.objs.size+1) (o:=.lst (zs.map (·.1))) (t':=s2.toks) (fun _ _=>sortedAll_old) (gs _) (h':=Fj s2.heap Z Z.toArray) {by rw[av];omega,Z,ep,rv,U};refine{.ref (s2.heap.objs.size+1),_,z,rfl,q _ zs (O.hok.fresh (gs _)) (iB _) ?_}
  match zs,Y with
  | [],_=>exact List.Pairwise.nil
  | [_],_=>exact jG _ _
  |_::_::_,Y=>exact absurd c (by rw[<- Y];simp)
 ·have ed:∀{α:Type} (l:List α),lK true l=l.reverse:=fun l=>rfl;refine sorted_N (l:=l) (vs:=Z) (r:=fun i=>(zs.reverse.getD i pK).2) {_,ho,rfl,n,rfl} (by omega) (by omega) (fun A' E' h' hA k Q' q'=>?_) (fun A' h' hA k i j C hi hj ne q'=>?_) fun p hp hs=>?_
  ·have M:=(O.kept (t':=s2.toks) k).hok;obtain⟨fs,h1,h2,h3⟩:=yd (s:={s2 with heap:=h'}) M rv hz;refine kat_kind (T:=.type "tuple") h1 (by omega) (fun v hv=>?_) (by rfl) ?_
   ·obtain⟨kk,o,rfl,g,cl⟩:=h3 v hv;rw[<- cl];exact (Looks.ld g).andThen .now
   ·exact q'
  ·have M:=(O.kept (t':=s2.toks) k).hok;have vr:=rv.reverse;rw[<- vE]at vr;have at_:∀m,m<Z.length->∃(a kk:aa) (us ws:List af),Z.reverse.getD m Value.none=.ref a/\qX h' a (.ref kk::us).toArray/\qX h' kk ws.toArray/\dZ ws (zs.reverse.getD m pK).2/\H2 kk=some (.tup ((zs.reverse.getD m pK).2.map V.int)):=fun m hm=>by
    have W:m<zs.reverse.length:=by rw[ji];omega
    obtain⟨v,ev,x,hx,rx⟩:=ua vr m (by rw[av];exact W);rw[cC,aE W]at hx
    cases hx;have ez:zs.reverse.getD m pK=zs.reverse[m]:=by rw[dU,aE W];rfl
    obtain⟨ad,kk,ra,e1,e2,e3⟩:=hz _ (List.mem_reverse.mp (vF W));have rx:RelV (zs.reverse[m]).1 v:=rx;rw[e1]at rx
    cases rx;obtain⟨us,r1,t1⟩:=gv (s:={s2 with heap:=h'}) M e2;obtain⟨ws,r2,t2⟩:=gv (s:={s2 with heap:=h'}) M e3
    cases r1 with
    |cons a1 b1=>
     cases a1;exact{ad,kk,_,ws,ev,t1,t2,by rw[ez];exact intsAre_of r2,by rw[ez];exact e3}
   obtain⟨a1,k1,dL,dG,g1,t1,u1,i1,m1⟩:=at_ i hi;obtain⟨a2,k2,ea,dV,g2,t2,u2,i2,m2⟩:=at_ j hj;have ee:(zs.reverse.getD i pK).2≠(zs.reverse.getD j pK).2:=by
    have em:((zs.reverse).map (·.2)).Nodup:=((uL zs).map _).nodup_iff.mpr nd;have h1:i<zs.reverse.length:=by rw[ji];omega
    have h2:j<zs.reverse.length:=by rw[ji];omega
    rw[dU,aE h1,dU,aE h2];show (zs.reverse[i]).2≠(zs.reverse[j]).2
    rcases Gu ne with c|c
    ·exact fun z=>dC.mp em i j (by simpa using h1) (by simpa using h2) c ((jd _).trans (z.trans (jd _).symm))
    ·exact fun z=>dC.mp em j i (by simpa using h2) (by simpa using h1) c ((jd _).trans (z.symm.trans (jd _).symm))
   have eq:=ya (s:={s2 with heap:=h'}) (A:=A') M (by omega) m1 m2;rw[decide_eq_false ee]at eq;show aW _ A' (keyLt' (A2 false) (Z.reverse.getD i Value.none) (Z.reverse.getD j Value.none)) C _ _;rw[g1,g2];obtain⟨o1,y1,_,n1,d1⟩:=id t1;obtain⟨o2,y2,_,n2,d2⟩:=id t2;refine kat_lt (s:={s2 with heap:=h'}) y1 d1 y2 d2 (kat_cons (eq _ _ _ _ (kat_no (kat_one _ _ (HT.lt_tupInts u1 u2 i1 i2 (by omega) q')))))
  ·have ek:Pm zs.length p:=by rw[Y];exact hp
   obtain⟨D,ei⟩:=GK nd ek (by rw[Y];exact hs);have vr:=rv.reverse;rw[<- vE]at vr;have vo:=(yc vr V.non p.toList fun i hi=>by
    rw[av,ji];have:=(iQ.mp ek).mem_iff.mp hi;simpa using this).reverse
   have ev:(p.toList.map fun i=>(zs.reverse.map (·.1)).getD i V.non).reverse=((p.toList.map fun i=>zs.reverse.getD i pK).reverse).map (·.1):=by
    refine Eq.trans ?_ vE.symm;rw[dR]
    congr 1
    refine ia fun i _=>?_;show (zs.reverse.map (·.1)).getD i V.non=(zs.reverse.getD i pK).1;rw[dU,cC,dU]
    cases zs.reverse[i]?<;>rfl
   rw[ev]at vo;obtain⟨ep,U⟩:=sortedAll_at s2.heap Z (uK (p.toList.map fun i=>Z.reverse.getD i Value.none).reverse);have z:=O.laid (a:=s2.heap.objs.size+1) (o:=.lst (((p.toList.map fun i=>zs.reverse.getD i pK).reverse).map (·.1))) (t':=s2.toks) (fun _ _=>sortedAll_old) (gs _) (h':=Fj s2.heap Z (uK (p.toList.map fun i=>Z.reverse.getD i Value.none).reverse)) {by
    rw[av,D.length_eq];have:64<=aB:=by decide
    omega,_,ep,vo,U}
   exact{.ref (s2.heap.objs.size+1),_,z,rfl,q _ _ (O.hok.fresh (gs _)) D ei}
end
end L2
namespace PySem
open SeqAt MeetsSeq MeetsSeq2 MeetsSeq3 SeqRoads2
section
variable{prog:aK}{w:bD}{A:bX}{s:ak}
variable{K:Type}[DecidableEq K]{knd:KeyKind prog w K}
end
end PySem
namespace L2
open PySem PySem.Spec PyProof.Rows PySem.SeqAt
section
variable{X:Cx}
end
end L2
namespace L2
open PySem PySem.Spec PyProof.Rows
section
variable{X:Cx}
theorem y7(hu:X.A.units+50<dY):OpR X (cN .NotEq) (fun x y H Q=>∃p q xs,x=.ref p/\y=.ref q/\H p=some (.lst xs)/\H q=some (.lst [])/\Q (.bl (!xs.isEmpty)) H):=by
 intro pins s σ H x y v u Q I Y Z h;obtain⟨p,q,xs,rfl,rfl,h1,h2,k⟩:=h
 cases xs with
 |nil=>exact Gj hu pins s σ H _ _ v u Q I Y Z {1,p,q,by omega,rfl,rfl,.inr (.inl {p,q,[],[],rfl,rfl,h1,h2,.nil}),k}
 |cons a xs=>
  cases Y
  cases Z;obtain⟨us,r1,i1⟩:=iq I.hok h1;obtain⟨vs,r2,i2⟩:=iq I.hok h2
  cases r2;have hl:=r1.length;exact SeqAt.RcNeAt.lists_lengths i1 i2 (by
   cases us with
   |nil=>cases hl
   |cons b us=>simp) (by omega) X.prog X.w _ _ {.bl true,H,I,rfl,k}
end
section
variable{X:Cx}
end
theorem GX{n m:Nat}{g:TG}{tc:TT}{te:TE}{σ:St}{H:Hp}{Q:VK}(Y:Nat->List V->Hp->Prop)(h0:Y 0 [] H)(hl:∀i ys H,i<=m->Y i ys H->ys.length<aB)
  (hs:∀i ys H,i<m->Y i ys H->g (.int (0+i)) (cF n none++σ) H fun Z H2=>Z.drop n=σ/\tc Z H2 fun b M=>if b=true then te Z M fun y J=>Y (i+1) (ys++[y]) J else Y (i+1) ys M)
  (hd:∀ys H,Y m ys H->∀p,H p=none->Q (.ref p) (upd H p (.lst ys))) :
  ∃W:Nat->Nat->List V->Hp->Prop,(∃k,W 0 k [] H)/\∀i k ys H,W i k ys H->ys.length<aB/\(((Itr 0 m).stop i H/\∀p,H p=none->Q (.ref p) (upd H p (.lst ys))) \/
   ((Itr 0 m).go i H/\∃N:List V->Hp->Prop,(∀U H',N U H'->∃k',k'<k/\W (i+1) k' U H')/\∀x H',(Itr 0 m).yld i H x H'->g x (cF n none++σ) H' fun Z H2=>Z.drop n=σ/\tc Z H2 fun b M=>
    if b=true then te Z M fun y J=>N (ys++[y]) J else N ys M)):=by
 refine{fun i k ys H=>k=m-i/\i<=m/\Y i ys H,{m,by simp,bV _,h0},?_};rintro i k ys H ⟨rfl,hi,O⟩;refine{hl i ys H hi O,?_}
 by_cases lt:i<m
 ·refine .inr {lt,Y (i+1),fun U H' I=>{m-(i+1),by omega,rfl,lt,I},fun x H' y=>?_};obtain⟨e,y⟩:=y;subst e y;exact hs i ys _ lt O
 ·have e:i=m:=by omega
  subst e;exact .inl {ay _,hd ys H O}
end L2
namespace My
open PySem L2
def top(i:Nat):c9:=PySem.Challenge.pw_momentloom_k98_whole_forks_and_marks.main.body.getD i (.Pass {0,0,0,0})
abbrev m8:c9:=fq (top 3) 0
abbrev oP:c9:=fq (top 4) 0
abbrev qg:c9:=fq (top 5) 0
abbrev rN:c9:=fq (top 6) 0
abbrev qh:c9:=fq (top 7) 0
abbrev qi:c9:=fq (top 8) 0
abbrev oQ:c9:=top 12
abbrev qj:c9:=top 13
abbrev lL:c9:=top 15
abbrev gI:c9:=top 16
abbrev gS:c9:=top 17
abbrev eC:c9:=top 18
abbrev oR:c9:=fq (top 20) 0
abbrev ju:c9:=fq (top 20) 1
abbrev fu:c9:=fq (top 20) 2
abbrev eX:c9:=fq (top 20) 3
abbrev gT:c9:=fq (top 20) 4
abbrev y8:c9:=top 21
abbrev oS:c9:=top 22
abbrev ie:c9:=top 23
abbrev mJ:c9:=top 24
abbrev iI:c9:=top 25
abbrev nJ:c9:=top 26
abbrev nU:c9:=top 27
abbrev nV:c9:=top 28
abbrev nX:c9:=top 29
abbrev nY:c9:=top 30
abbrev nZ:c9:=top 32
abbrev oU:c9:=fq (top 33) 0
abbrev jH:c9:=fq (top 34) 0
abbrev iR:c9:=fq (top 34) 1
abbrev j7:c9:=top 35
abbrev qm:c9:=fq (top 37) 0
abbrev gi:c9:=top 38
abbrev m9:c9:=fq (top 39) 0
abbrev gX:c9:=fq (top 39) 1
abbrev fK:c9:=fq (top 39) 2
abbrev ig:c9:=fq (top 39) 3
abbrev fv:c9:=top 40
abbrev lN:c9:=top 41
abbrev vG:c9:=top 42
abbrev wG:c9:=top 44
abbrev qP:c9:=top 46
abbrev ng:c9:=fq (top 48) 0
abbrev iS:c9:=fq (top 48) 1
abbrev iJ:c9:=fq (top 48) 4
abbrev eY:c9:=fq (top 48) 5
abbrev mK:c9:=top 50
abbrev mO:c9:=top 51
abbrev eJ:c9:=top 52
abbrev fY:c9:=top 53
abbrev gY:c9:=top 54
abbrev jv:c9:=top 55
abbrev lO:c9:=top 56
abbrev lP:c9:=top 57
abbrev oV:c9:=top 58
abbrev kA:c9:=top 59
abbrev hW:c9:=top 60
abbrev lQ:c9:=top 61
abbrev kC:c9:=top 62
abbrev jY:c9:=top 63
abbrev GY:c9:=top 64
structure Df(K:ae)(mg:Str->Option af)(x:Str)(st:c9)(ps:List Str)(f:aa)(fd:bU):Prop where
 F:Fun K x x st f fd
 b:Binds K fd ps []
 m:mg x=some (.ref f)
structure Bl(mg:Str->Option af):Prop where
 len:mg "len"=none
 abs:mg "abs"=none
 isi:mg "isinstance"=none
 list:mg "list"=none
 tuple:mg "tuple"=none
 str:mg "str"=none
 int:mg "int"=none
 bool:mg "bool"=none
 range:mg "range"=none
 max:mg "max"=none
 dict:mg "dict"=none
theorem boot_abs:fg "abs"=some (.builtin "abs"):=by decide +kernel
theorem sP:fg "isinstance"=some (.builtin "isinstance"):=by decide +kernel
theorem boot_list:fg "list"=some (.type "list"):=by decide +kernel
theorem boot_tuple:fg "tuple"=some (.type "tuple"):=by decide +kernel
theorem boot_int:fg "int"=some (.type "int"):=by decide +kernel
theorem boot_max:fg "max"=some (.builtin "max"):=by decide +kernel
theorem boot_dict:fg "dict"=some (.type "dict"):=by decide +kernel
def But(p:aa)(H H':Hp):Prop:=∀b o,H b=some o->b≠p->H' b=some o
theorem But.refl(p:aa)(H:Hp):But p H H:=fun _ _ e _=>e
theorem But.trans{p:aa}{H H1 H2:Hp}(a:But p H H1)(b:But p H1 H2):But p H H2:=fun c o e n=>b c o (a c o e n) n
theorem But.upd(p:aa)(H:Hp)(o:HO):But p H (upd H p o):=fun b u e n=>by rw[aL n];exact e
theorem But.same{p:aa}{H H1 H2:Hp}(a:But p H H1)(b:aY H1 H2):But p H H2:=fun c o e n=>b c o (a c o e n)
theorem aH{H:Hp}{p:aa}(h:H p=none)(o:HO):aY H (upd H p o):=fun b u q=>by rw[aL (aw q h)];exact q
theorem kD{c:Prop}[Decidable c](h:decide c=true):c:=of_decide_eq_true h
theorem kQ{c:Prop}[Decidable c](h:¬decide c=true):¬c:=fun z=>h (decide_eq_true z)
theorem lt2:2<=aB:=by decide
theorem lt5:5<=aB:=by decide
def BJ:V->Prop
 |.int _=>True
 |.str _=>True
 |_=>False
def Tree(H:Hp):Nat->V->Prop
 |0,v=>BJ v
 |n+1,v=>BJ v\/∃p xs,v=.ref p/\(H p=some (.lst xs)\/H p=some (.tup xs))/\xs.length<1000/\∀x∈xs,Tree H n x
def Alike(H H':Hp):Nat->V->V->Prop
 |0,v,Z=>Z=v
 |n+1,v,Z=>(BJ v/\Z=v)\/(∃p Y xs ys,v=.ref p/\Z=.ref Y/\H p=some (.lst xs)/\H' Y=some (.lst ys)/\aJ (Alike H H' n) xs ys) \/
   ∃p Y xs ys,v=.ref p/\Z=.ref Y/\H p=some (.tup xs)/\H' Y=some (.tup ys)/\aJ (Alike H H' n) xs ys
theorem Alike.mono{H H1 H2:Hp}(s:aY H1 H2):∀{n:Nat} {v Z:V},Alike H H1 n v Z->Alike H H2 n v Z
 |0,_,_,h=>h
 |n+1,v,Z,h=>by
  rcases h with h|⟨p,Y,xs,ys,e1,W,h1,h2,r⟩|⟨p,Y,xs,ys,e1,W,h1,h2,r⟩
  ·exact .inl h
  ·exact .inr (.inl {p,Y,xs,ys,e1,W,h1,s _ _ h2,L2.Paired.imp' (fun _ _ z=>Alike.mono s z) r})
  ·exact .inr (.inr {p,Y,xs,ys,e1,W,h1,s _ _ h2,L2.Paired.imp' (fun _ _ z=>Alike.mono s z) r})
theorem Tree.same{H H1:Hp}(s:aY H H1):∀{n:Nat} {v:V},Tree H n v->Tree H1 n v
 |0,_,h=>h
 |n+1,v,h=>by
  rcases h with h|⟨p,xs,e,h1,h2,Z⟩
  ·exact .inl h
  ·exact .inr {p,xs,e,h1.imp (s _ _) (s _ _),h2,fun x hx=>Tree.same s (Z x hx)}
theorem Alike.from{H H0 H1:Hp}(s:aY H H0):∀{n:Nat} {v U:V},Tree H n v->Alike H0 H1 n v U->Alike H H1 n v U
 |0,_,_,_,h=>h
 |n+1,v,U,t,h=>by
  rcases t with t|⟨q,zs,e,t1,M,W⟩
  ·rcases h with h|⟨p,Z,xs,ys,e1,Y,h1,h2,r⟩|⟨p,Z,xs,ys,e1,Y,h1,h2,r⟩
   ·exact .inl h
   ·rw[e1]at t;exact t.elim
   ·rw[e1]at t;exact t.elim
  ·rcases h with h|⟨p,Z,xs,ys,e1,Y,h1,h2,r⟩|⟨p,Z,xs,ys,e1,Y,h1,h2,r⟩
   ·exact .inl h
   ·rw[e]at e1
    cases e1
    rcases t1 with t1|t1
    ·have z:=s _ _ t1;rw[h1]at z
     cases z;refine .inr (.inl {q,Z,zs,ys,e,Y,t1,h2,?_});clear h1 t1 M h2
     induction r with
     |nil=>exact .nil
     |cons a b O=>exact .cons (Alike.from s (W _ aC) a) (O fun x hx=>W x (ag _ hx))
    ·have z:=s _ _ t1;rw[h1]at z
     cases z
   ·rw[e]at e1
    cases e1
    rcases t1 with t1|t1
    ·have z:=s _ _ t1;rw[h1]at z
     cases z
    ·have z:=s _ _ t1;rw[h1]at z
     cases z;refine .inr (.inr {q,Z,zs,ys,e,Y,t1,h2,?_});clear h1 t1 M h2
     induction r with
     |nil=>exact .nil
     |cons a b O=>exact .cons (Alike.from s (W _ aC) a) (O fun x hx=>W x (ag _ hx))
theorem GZ{K:ae}:gN K (.type "int") (.type "list")=some false:=by kernel_rfl
theorem Ha{K:ae}:gN K (.type "str") (.type "list")=some false:=by kernel_rfl
theorem Hc{K:ae}:gN K (.type "int") (.type "tuple")=some false:=by kernel_rfl
theorem He{K:ae}:gN K (.type "str") (.type "tuple")=some false:=by kernel_rfl
theorem Nr{K:ae}:gN K (.type "list") (.type "list")=some true:=by rfl
theorem Nt{K:ae}:gN K (.type "tuple") (.type "list")=some false:=by kernel_rfl
theorem Nu{K:ae}:gN K (.type "tuple") (.type "tuple")=some true:=by rfl
def Nw(H G:Hp):Hp:=fun a=>if H a=none then G a else none
theorem Ao{H G:Hp}{a:aa}(n:H a=none):Nw H G a=G a:=if_pos n
theorem nw_le{H G:Hp}:aY (Nw H G) G:=fun a o e=>by
 unfold Nw at e
 by_cases c:H a=none
 ·rw[if_pos c]at e;exact e
 ·rw[if_neg c]at e
  cases e
theorem vH{H G G':Hp}(s:aY G G'):aY (Nw H G) (Nw H G'):=fun a o e=>by
 by_cases c:H a=none
 ·rw[Ao c]at e |-;exact s _ _ e
 ·unfold Nw at e;rw[if_neg c]at e
  cases e
theorem CA{H0 H G:Hp}(d:∀a,H a=none->H0 a=none):aY (Nw H G) (Nw H0 G):=fun a o e=>by
 by_cases c:H a=none
 ·rw[Ao c]at e;rw[Ao (d a c)];exact e
 ·unfold Nw at e;rw[if_neg c]at e
  cases e
theorem sQ{H G:Hp}(s:aY H G):∀a,G a=none->H a=none:=fun a n=>by
 cases z:H a with
 |none=>rfl
 |some o=>
  rw[s _ _ z]at n
  cases n
section
variable{P:aK}{w:bD}{K:ae}{mg:Str->Option af}{base:cB}{f fC fI CM CS:aa}{fd fdC fdI:bU}
def qp(n:Nat):Sp:=fun vs H Q _=>∃v,vs=[v]/\Tree H n v/\∀(Z:V) (H':Hp),aY H H'->Alike H (Nw H H') n v Z->Q Z H'
theorem scC:bO ["thing"] ["thing"] (aN nZ):={}
theorem CH:(["part","thing"]:List Str).Nodup:=by decide +kernel
theorem ye{Z Y:Type}{R:Z->Y->Prop}{xs:List Z}{ys:List Y}{i:Nat}{x:Z}{y:Y}(r:aJ R (xs.take i) ys)(hx:xs[i]?=some x)(h:R x y):aJ R (xs.take (i+1)) (ys++[y]):=by
 have e:xs.take (i+1)=xs.take i++[x]:=by rw[fZ,hx];rfl
 rw[e];exact eN r h
theorem Ap{n:Nat}(D:Df K mg "copied" nZ ["thing"] f fd)(B:Bl mg)(G:bC P w K mg base CX0 (n+1) f fd ["thing"] (qp n)):bC P w K mg base CX0 (n+2) f fd ["thing"] (qp (n+1)):=by
 refine D.F.ok scC (fun vs H Q E h=>?_) (fun M A outer s H vs Q E hr h=>?_)
 ·obtain⟨v,rfl,_⟩:=h;rfl
 obtain⟨v,rfl,ht,q⟩:=h;refine{_,aj (cW (tL (cO mI (by rfl) B.isi sP (aq (pv 0) (aq (vj (v:=.ty "list") (by rfl) B.list boot_list rfl) ai))))
   (aD (bQ (oO ["part"] (iH.closed (by decide +kernel) (by decide +kernel) rfl (by decide +kernel) (by intro n W;rcases aA.mp W with rfl;decide +kernel)) rfl (iM (pv 0)) (fun _ _ _ _=>dS (i:=0) CH rfl (Or.inl rfl)) (fun _ _ _ _=>kT)
    (fun _ _ _ _=>aM G hr rfl D.m D.F.kp D.b .nil bh (aq (pv 0) ai))))) cj)
  (aj (cW (tL (cO mI (by rfl) B.isi sP (aq (pv 0) (aq (vj (v:=.ty "tuple") (by rfl) B.tuple boot_tuple rfl) ai))))
   (aD (bQ (hV xr (by rfl) B.tuple boot_tuple (aq (oO ["part"] (iH.closed (by decide +kernel) (by decide +kernel) rfl (by decide +kernel) (by intro n W;rcases aA.mp W with rfl;decide +kernel)) rfl (MJ (pv 0)) (fun _ _ _ _=>dS (i:=0) CH rfl (Or.inl rfl)) (fun _ _ _ _=>kT)
    (fun _ _ _ _=>aM G hr rfl D.m D.F.kp D.b .nil bh (aq (pv 0) ai))) ai)))) cj)
  (aD (bQ (pv 0)))),?_}
 have big:1000<aB:=by decide
 rcases ht with ht|⟨p,xs,rfl,hp,hl,hx⟩
 ·cases v with
  |int i=>
   refine{_,rfl,_,"list",_,false,rfl,.int i,GZ,_,rfl,gu ?_};refine{_,rfl,_,"tuple",_,false,rfl,.int i,Hc,_,rfl,gu ?_};exact{_,rfl,q _ _ (aY.refl H) (.inl ⟨trivial,rfl⟩)}
  |str x=>
   refine{_,rfl,_,"list",_,false,rfl,.str x,Ha,_,rfl,gu ?_};refine{_,rfl,_,"tuple",_,false,rfl,.str x,He,_,rfl,gu ?_};exact{_,rfl,q _ _ (aY.refl H) (.inl ⟨trivial,rfl⟩)}
  |non=>exact ht.elim
  |bl b=>exact ht.elim
  |byt b=>exact ht.elim
  |flt b=>exact ht.elim
  |ref a=>exact ht.elim
  |ty a=>exact ht.elim
 ·rcases hp with hp|hp
  ·refine{_,rfl,_,"list",_,true,rfl,.lst hp,Nr,_,rfl,iA ?_};refine{_,rfl,p,rfl,{_,SqL.of hp},tX (K:=K) (a:=p) (xs:=xs) (fun i ys H1=>i<=xs.length/\ys.length=i/\aY H H1/\aJ (Alike H (Nw H H1) n) (xs.take i) ys) {bV _,rfl,aY.refl H,.nil} ?_ ?_ ?_}
   ·rintro i ys H1 hi ⟨_,h1,h2,_⟩;exact{SqL.of (h2 _ _ hp),by omega}
   ·rintro i x ys H1 hi ⟨h0,h1,h2,Y⟩;have hm:x∈xs:=cA hi;have lt:i<xs.length:=(aF.mp hi).1;refine{rfl,?_};unfold xu;refine iA ?_;refine{_,rfl,x,rfl,Tree.same h2 (hx x hm),fun J H2 s2 U=>?_};exact{lt,by rw[ax,h1];rfl,h2.trans s2,ye (L2.Paired.imp' (fun _ _ z=>Alike.mono (vH s2) z) Y) hi (Alike.mono (CA (sQ h2)) (Alike.from h2 (hx x hm) U))}
   ·rintro ys H1 ⟨_,h1,h2,Y⟩ l Z;rw[eg]at Y;refine q _ _ (h2.trans (aH Z _)) (.inr (.inl {p,l,xs,ys,rfl,rfl,hp,(by rw[Ao (sQ h2 _ Z)];exact ah),L2.Paired.imp' (fun _ _ z=>Alike.mono (vH (aH Z _)) z) Y}))
  ·refine{_,rfl,_,"list",_,false,rfl,.tup hp,Nt,_,rfl,gu ?_};refine{_,rfl,_,"tuple",_,true,rfl,.tup hp,Nu,_,rfl,iA ?_};refine{_,rfl,p,rfl,{_,SqT.of hp},FZ (K:=K) (a:=p) (xs:=xs) (Q:=fun v H1=>∃z ys,[v]=[V.ref z]/\((SqL K H1 z ys/\∀l,H1 l=none->Q (.ref l) (upd H1 l (.tup ys)))\/(SqT K H1 z ys/\Q (.ref z) H1))) (fun i ys H1=>i<=xs.length/\ys.length=i/\aY H H1/\aJ (Alike H (Nw H H1) n) (xs.take i) ys) {bV _,rfl,aY.refl H,.nil} ?_ ?_ ?_}
   ·rintro i ys H1 hi ⟨_,h1,h2,_⟩;exact{SqT.of (h2 _ _ hp),by omega}
   ·rintro i x ys H1 hi ⟨h0,h1,h2,Y⟩;have hm:x∈xs:=cA hi;have lt:i<xs.length:=(aF.mp hi).1;refine{rfl,?_};unfold xu;refine iA ?_;refine{_,rfl,x,rfl,Tree.same h2 (hx x hm),fun J H2 s2 U=>?_};exact{lt,by rw[ax,h1];rfl,h2.trans s2,ye (L2.Paired.imp' (fun _ _ z=>Alike.mono (vH s2) z) Y) hi (Alike.mono (CA (sQ h2)) (Alike.from h2 (hx x hm) U))}
   ·rintro ys H1 ⟨_,h1,h2,Y⟩ l Z;rw[eg]at Y;refine{l,ys,rfl,.inl {SqL.of ah,fun t ht=>?_}};have O:aY H1 (upd (upd H1 l (.lst ys)) t (.tup ys)):=(aH Z _).trans (aH ht _);exact q _ _ (h2.trans O) (.inr (.inr {p,t,xs,ys,rfl,rfl,hp,(by rw[Ao (sQ (h2.trans (aH Z (.lst ys))) _ ht)];exact ah),L2.Paired.imp' (fun _ _ z=>Alike.mono (vH O) z) Y}))
theorem Aq(D:Df K mg "copied" nZ ["thing"] f fd)(B:Bl mg):bC P w K mg base CX0 1 f fd ["thing"] (qp 0):=by
 refine D.F.ok scC (fun vs H Q E h=>?_) (fun Z A outer s H vs Q E hr h=>?_)
 ·obtain⟨v,rfl,_⟩:=h;rfl
 obtain⟨v,rfl,ht,q⟩:=h;refine{_,aj (cW (tL (cO mI (by rfl) B.isi sP (aq (pv 0) (aq (vj (v:=.ty "list") (by rfl) B.list boot_list rfl) ai)))) xK cj)
  (aj (cW (tL (cO mI (by rfl) B.isi sP (aq (pv 0) (aq (vj (v:=.ty "tuple") (by rfl) B.tuple boot_tuple rfl) ai)))) xK cj)
  (aD (bQ (pv 0)))),?_}
 have ht:BJ v:=ht
 cases v with
 |int i=>
  refine{_,rfl,_,"list",_,false,rfl,.int i,GZ,_,rfl,gu ?_};refine{_,rfl,_,"tuple",_,false,rfl,.int i,Hc,_,rfl,gu ?_};exact{_,rfl,q _ _ (aY.refl H) rfl}
 |str x=>
  refine{_,rfl,_,"list",_,false,rfl,.str x,Ha,_,rfl,gu ?_};refine{_,rfl,_,"tuple",_,false,rfl,.str x,He,_,rfl,gu ?_};exact{_,rfl,q _ _ (aY.refl H) rfl}
 |non=>exact ht.elim
 |bl b=>exact ht.elim
 |byt b=>exact ht.elim
 |flt b=>exact ht.elim
 |ref a=>exact ht.elim
 |ty a=>exact ht.elim
theorem yf(D:Df K mg "copied" nZ ["thing"] f fd)(B:Bl mg):∀n:Nat,bC P w K mg base CX0 (n+1) f fd ["thing"] (qp n)
 |0=>Aq D B
 |n+1=>Ap D B (yf D B n)
structure MdT(K:ae)(mg:Str->Option af)(CM CS:aa):Prop where
 clM:Cls K CM
 clS:Cls K CS
 nM:eI K CM "machines"
 nB:eI K CS "boxes"
 nQ:eI K CS "queues"
 nD:eI K CS "drawn"
 nS:eI K CS "sent"
 mM:mg "Model"=some (.ref CM)
 mS:mg "State"=some (.ref CS)
inductive Lq(CM:aa)(n:Nat)(vs:List V)(H:Hp)(Q:VK)(_e:XK):Prop where
 |mk(m dx:aa)(v:V)(_:vs=[.ref m,v])(_:H m=some (.ins CM dx []))(_:Tree H n v)(_:∀(v':V) (H':Hp),aY H H'->Alike H (Nw H H') n v v'->Q .non (upd H' m (.ins CM dx (cJ "machines" v' [])))):Lq CM n vs H Q _e
def Nv(CM:aa)(n:Nat):Sp:=fun vs H Q Z=>Lq CM n vs H Q Z
theorem scMI:bO ["self","machines"] ["self","machines"] (aN oU):={}
theorem Lr{n:Nat}(F:Fun K "__init__" "Model.__init__" oU f fd)(Z:Df K mg "copied" nZ ["thing"] fC fdC)(B:Bl mg)(T:MdT K mg CM CS):bC P w K mg base CX0 (n+2) f fd ["self","machines"] (Nv CM n):=by
 have V:bC P w K mg base CX0 (n+1) fC fdC ["thing"] (qp n):=yf Z B n;refine F.ok scMI (fun vs H Q E h=>?_) (fun W A outer s H vs Q E hr h=>?_)
 ·obtain⟨m,dx,v,rfl,_⟩:=h;rfl
 obtain⟨m,dx,v,rfl,hm,ht,q⟩:=h;refine{_,aD (eP (pv 0) (aM V hr rfl Z.m Z.F.kp Z.b .nil bh (aq (pv 1) ai)) rfl),?_};refine{_,rfl,v,rfl,ht,fun U H' Y O=>?_};exact{_,rfl,m,CM,dx,[],rfl,Y _ _ hm,T.clM,T.nM,(by show 0<1000;decide),q U H' Y O}
def oW(b q d e:V):List (Str×V):=cJ "sent" e (cJ "drawn" d (cJ "queues" q (cJ "boxes" b [])))
inductive Ls(CS:aa)(vs:List V)(H:Hp)(Q:VK)(_e:XK):Prop where
 |mk(m dx:aa)(b q d e:V)(_:vs=[.ref m,b,q,d,e])(_:H m=some (.ins CS dx []))(_:∀H':Hp,H' m=some (.ins CS dx (oW b q d e))->But m H H'->Q .non H'):Ls CS vs H Q _e
def Nx(CS:aa):Sp:=fun vs H Q Z=>Ls CS vs H Q Z
theorem scSI:bO ["self","boxes","queues","drawn","sent"] ["self","boxes","queues","drawn","sent"] (aN jH):={}
theorem hJ(f:Str)(v:V)(fs:List (Str×V)):(cJ f v fs).length<=fs.length+1:=by
 induction fs with
 |nil=>exact ay _
 |cons p r Z=>
  unfold cJ
  split
  ·rw[aR,aR];omega
  ·rw[aR,aR];omega
theorem Lu(F:Fun K "__init__" "State.__init__" jH f fd)(T:MdT K mg CM CS):bC P w K mg base CX0 1 f fd ["self","boxes","queues","drawn","sent"] (Nx CS):=by
 refine F.ok scSI (fun vs H Q E h=>?_) (fun Y A outer s H vs Q E hr h=>?_)
 ·obtain⟨m,dx,b,q,d,e,rfl,_⟩:=h;rfl
 obtain⟨m,dx,b,q,d,e,rfl,hm,k⟩:=h;refine{_,aj (eP (pv 0) (pv 1) rfl) (aj (eP (pv 0) (pv 2) rfl) (aj (eP (pv 0) (pv 3) rfl) (aD (eP (pv 0) (pv 4) rfl)))),?_};have Z:=hJ "boxes" b [];have V:=hJ "queues" q (cJ "boxes" b []);have W:=hJ "drawn" d (cJ "queues" q (cJ "boxes" b []));simp only[cw]at Z;refine{_,rfl,_,rfl,m,CS,dx,[],rfl,hm,T.clS,T.nB,(by show 0<1000;decide),_,rfl,_,rfl,m,CS,dx,_,rfl,ah,T.clS,T.nQ,(by omega),_,rfl,_,rfl,m,CS,dx,_,rfl,ah,T.clS,T.nD,(by omega),_,rfl,_,rfl,m,CS,dx,_,rfl,ah,T.clS,T.nS,(by omega),?_};exact k _ ah (((But.upd m H _).trans (But.upd m _ _)).trans ((But.upd m _ _).trans (But.upd m _ _)))
inductive Hf(CM:aa)(vs:List V)(H:Hp)(Q:VK)(_e:XK):Prop where
 |mk(m dx l t b q:aa)(fs:List (Str×V))(n0 x3 x4:V)(_:vs=[.ref m,.int 0])(_:H m=some (.ins CM dx fs))(_:fs.lookup ("machines":Str)=some (V.ref l))(_:H l=some (.lst [.ref t]))(_:H t=some (.tup [n0,.ref b,.ref q,x3,x4]))(_:H b=some (.lst []))(_:H q=some (.lst []))(_:∀(st:aa) (H':Hp),aY H H'->Q (.ref st) H'):Hf CM vs H Q _e
theorem JS:bO ["model","at","machine","queues","name"] ["model","at"] (aN j7):={}
end
section
variable{κ:Type}[DecidableEq κ]
abbrev rB(ps:List (κ×V))(m:List (κ×V)):List (κ×V):=ps.foldl (fun m p=>iY m p.1 p.2) m
end
theorem n6{H H':Hp}{n:Nat}{a:aa}{xs:List V}{y:V}(ha:H a=some (.lst xs))(z:Alike H H' (n+1) (.ref a) y):∃(Y:aa) (ys:List V),y=.ref Y/\H' Y=some (.lst ys)/\aJ (Alike H H' n) xs ys:=by
 rcases z with⟨z,_⟩|⟨p,W,Z,ys,e1,U,h1,h2,r⟩|⟨p,W,Z,ys,e1,U,h1,h2,r⟩
 ·exact z.elim
 ·cases e1;rw[ha]at h1
  cases h1;exact⟨W,ys,U,h2,r⟩
 ·cases e1;rw[ha]at h1
  cases h1
theorem uc{H H':Hp}{n:Nat}{a:aa}{xs:List V}{y:V}(ha:H a=some (.tup xs))(z:Alike H H' (n+1) (.ref a) y):∃(Y:aa) (ys:List V),y=.ref Y/\H' Y=some (.tup ys)/\aJ (Alike H H' n) xs ys:=by
 rcases z with⟨z,_⟩|⟨p,W,Z,ys,e1,U,h1,h2,r⟩|⟨p,W,Z,ys,e1,U,h1,h2,r⟩
 ·exact z.elim
 ·cases e1;rw[ha]at h1
  cases h1
 ·cases e1;rw[ha]at h1
  cases h1;exact⟨W,ys,U,h2,r⟩
theorem fH{H H':Hp}{n:Nat}{v y:V}(hv:BJ v)(z:Alike H H' n v y):y=v:=by
 cases n with
 |zero=>exact z
 |succ n=>
  rcases z with⟨_,z⟩|⟨p,Y,Z,ys,e1,W,h1,h2,r⟩|⟨p,Y,Z,ys,e1,W,h1,h2,r⟩
  ·exact z
  ·rw[e1]at hv;exact hv.elim
  ·rw[e1]at hv;exact hv.elim
theorem iT{H H':Hp}{n:Nat}{xs ys:List V}(r:aJ (Alike H H' n) xs ys):(∀x∈xs,BJ x)->ys=xs:=by
 induction r with
 |nil=>exact fun _=>rfl
 |cons a b Z=>
  intro h;rw[fH (h _ aC) a,Z fun x hx=>h x (ag _ hx)]
def gU(H:Hp)(ps:List (Str×Int))(vs:List V):Prop:=vx H (ps.map fun p=>(Sum.inr p.1,V.int p.2)) vs
theorem gU.same{H H':Hp}(s:aY H H'):∀{ps:List (Str×Int)} {vs:List V},gU H ps vs->gU H' ps vs
 | [],_,h=>by
  cases h;exact .nil
 |p::ps,_,h=>by
  cases h with
  |cons a b=>
   obtain⟨t,e,h⟩:=a;exact .cons {t,e,s _ _ h} (gU.same s (ps:=ps) b)
theorem gU.alike{H H':Hp}{n:Nat}:∀{ps:List (Str×Int)} {vs ys:List V},gU H ps vs->aJ (Alike H H' (n+1)) vs ys->gU H' ps ys
 | [],_,_,h,r=>by
  cases h
  cases r;exact .nil
 |p::ps,_,_,h,r=>by
  cases h with
  |cons a b=>
   cases r with
   |cons r1 r2=>
    obtain⟨t,rfl,h⟩:=a;obtain⟨t',ys,rfl,h',Z⟩:=uc h r1;have e:=iT Z (fun x hx=>by
     simp only[ar,aV,or_false]at hx
     rcases hx with rfl|rfl
     ·exact trivial
     ·exact trivial)
    rw[e]at h';exact .cons ⟨t',rfl,h'⟩ (gU.alike (ps:=ps) b r2)
theorem gU.length{H:Hp}{ps:List (Str×Int)}{vs:List V}(h:gU H ps vs):ps.length=vs.length:=by
 have z:=aO h;rw[av]at z;exact z
theorem gU.tree{H:Hp}{n:Nat}:∀{ps:List (Str×Int)} {vs:List V},gU H ps vs->∀x∈vs,Tree H (n+1) x
 | [],_,h,x,hx=>by
  cases h
  cases hx
 |p::ps,_,h,x,hx=>by
  cases h with
  |cons a b=>
   rcases ar.mp hx with rfl|hx
   ·obtain⟨t,rfl,h⟩:=a;refine .inr {t,_,rfl,.inr h,(by show 2<1000;decide),fun y hy=>?_};simp only[ar,aV,or_false]at hy
    rcases hy with rfl|rfl
    ·cases n<;>first|exact trivial|exact .inl trivial
    ·cases n<;>first|exact trivial|exact .inl trivial
   ·exact gU.tree (ps:=ps) b x hx
section
variable{P:aK}{w:bD}{K:ae}{mg:Str->Option af}{base:cB}{f fI CM CS:aa}{fd fdI:bU}
abbrev Ny(ps:List (Str×Int)):List (Key×V):=rB (ps.map fun p=>((Sum.inr p.1:Key),V.int p.2)) []
abbrev quT(qs:List Str)(Z:List aa):List (Key×V):=rB ((qs.zip Z).map fun p=>((Sum.inr p.1:Key),V.ref p.2)) []
structure New(H H':Hp)(CS st:aa)(ps:List (Str×Int))(qs:List Str)(dx bd qd:aa)(ls:List aa):Prop where
 hst:H' st=some (.ins CS dx (oW (.ref bd) (.ref qd) (.int 0) (.int 0)))
 hbd:H' bd=some (.dK (Ny ps))
 hqd:H' qd=some (.dK (quT qs ls))
 len:ls.length=qs.length
 nd:ls.Nodup
 li:∀l∈ls,H l=none/\H' l=some (.lst [])
 ost:H st=none
 obd:H bd=none
 oqd:H qd=none
 ne:qd≠bd
 same:aY H H'
inductive yg(CM CS:aa)(vs:List V)(H:Hp)(Q:VK)(_e:XK):Prop where
 |mk(m dx l t b q:aa)(fs:List (Str×V))(n0 x3 x4:V)(i:Nat)(ms vb:List V)(ps:List (Str×Int))(qs:List Str)(_:vs=[.ref m,.int (i:Int)])(_:H m=some (.ins CM dx fs))(_:fs.lookup ("machines":Str)=some (V.ref l))(_:H l=some (.lst ms))(_:ms[i]?=some (.ref t))(_:H t=some (.tup [n0,.ref b,.ref q,x3,x4]))(_:H b=some (.lst vb))(_:gU H ps vb)(_:ps.length<=100)(_:H q=some (.lst (qs.map V.str)))(_:qs.length<=100)(_:∀(st dx bd qd:aa) (ls:List aa) (H':Hp),New H H' CS st ps qs dx bd qd ls->Q (.ref st) H'):yg CM CS vs H Q _e
def Ar(CM CS:aa):Sp:=fun vs H Q Z=>yg CM CS vs H Q Z
theorem Hg{Z Y:Type}{xs:List Z}{ys:List Y}{i:Nat}{x:Z}{y:Y}(hl:ys.length=i)(hx:xs[i]?=some x):(xs.take (i+1)).zip (ys++[y])=(xs.take i).zip ys++[(x,y)]:=by
 have lt:i<xs.length:=(aF.mp hx).1;have e:xs.take (i+1)=xs.take i++[x]:=by rw[fZ,hx];rfl
 rw[e,List.zip_append (by rw[cM,hl];omega)];rfl
theorem qQ(D:Df K mg "first_state" j7 ["model","at"] f fd)(MS:Mk K CS fI)(FI:Fun K "__init__" "State.__init__" jH fI fdI)(bI:Binds K fdI ["self","boxes","queues","drawn","sent"] [])(B:Bl mg)(T:MdT K mg CM CS) :
  bC P w K mg base CX0 3 f fd ["model","at"] (Ar CM CS):=by
 have GI:bC P w K mg base CX0 1 fI fdI ["self","boxes","queues","drawn","sent"] (Nx CS):=Lu FI T;refine D.F.ok JS (fun vs H Q E h=>?_) (fun cr A outer s H vs Q E hr h=>?_)
 ·obtain⟨m,dx,l,t,b,q,fs,n0,x3,x4,i,ms,vb,ps,qs,rfl,_⟩:=h;rfl
 obtain⟨m,dx,l,t,b,q,fs,n0,x3,x4,i,ms,vb,ps,qs,rfl,hm,dn,hl,hi,ht,hb,dj,ci,hq,cp,k⟩:=h;have hu:=mC hr;refine{_,aj (bE (i:=2) JS.nd rfl (Or.inl rfl) (bR dB (cU (pv 0) rfl) (pv 1) (fun _ _=>rfl)))
  (aj (bE (i:=3) JS.nd rfl (Or.inl rfl) sJ)
  (aj (jA cY rfl (iM (bR cv (pv 2) au (fun _ _=>rfl))) (dS (i:=4) JS.nd rfl (Or.inl rfl)) (aD (mH hu (pv 3) (pv 4) (eQ ai) rfl)))
  (aD (bQ (iN MS GI hr (by rfl) T.mS bI .nil bh (aq (hV (By rfl) (by rfl) B.dict boot_dict (aq (bR cv (pv 2) au (fun _ _=>rfl)) ai)) (aq (pv 3) (aq au (aq au ai))))))))),?_}
 refine{_,rfl,m,CM,dx,_,_,rfl,hm,T.clM,T.nM,dn,_,rfl,l,_,_,_,rfl,rfl,SqL.of hl,jD hi,?_};intro d hd;have s1:aY H (upd H d (.dK [])):=aH hd _;have big:1000<aB:=by decide
 have a2:atI [n0,V.ref b,V.ref q,x3,x4] 2=some (V.ref q):=rfl;have a1:atI [n0,V.ref b,V.ref q,x3,x4] 1=some (V.ref b):=rfl;refine{_,rfl,t,_,_,_,rfl,rfl,SqT.of (s1 _ _ ht),a2,q,rfl,{_,SqL.of (s1 _ _ hq)},jB (K:=K) (a:=q) (xs:=qs.map V.str) (fun j σ G=>∃(g:Option V) (Z:List aa),σ=[some (.ref m),some (.int (i:Int)),some (.ref t),some (.ref d),g]/\j<=qs.length/\G d=some (.dK (quT (qs.take j) Z))/\Z.length=j/\Z.Nodup/\(∀z∈Z,H z=none/\G z=some (.lst []))/\aY H G)
  {none,[],rfl,bV _,ah,rfl,iX,(fun z Y=>by cases Y),s1} ?_ ?_ ?_}
 ·rintro j σ G _ ⟨g,Z,rfl,_,_,_,_,_,sm⟩;exact SqL.of (sm _ _ hq)
 ·rintro j x σ G M ⟨g,Z,rfl,jl,W,ll,nd,li,sm⟩;obtain⟨nm,J,rfl⟩:∃nm,qs[j]?=some nm/\x=V.str nm:=by
   rw[cC]at M
   cases e:qs[j]? with
   |none=>rw[e]at M;cases M
   |some nm=>rw[e]at M;cases M;exact⟨nm,rfl,rfl⟩
  have de:j<qs.length:=(aF.mp J).1;refine{bV _,fun z Y=>?_};have O:d≠z:=aw W Y;have da:upd G z (.lst []) d=some (.dK (quT (qs.take j) Z)):=by rw[aL O];exact W
  have lt:(quT (qs.take j) Z).length<aB:=by
   have U:=Ak ((((qs.take j).zip Z).map fun p=>((Sum.inr p.1:Key),V.ref p.2))) [];rw[av,qq,cM]at U;simp only[cw]at U;exact jE U (by omega)
  refine{_,rfl,_,rfl,d,_,rfl,tV.k (k:=Sum.inr nm) da lt,?_};have fz:H z=none:=sm.free Y;have di:z∉Z:=fun c=>by
   have U:=(li z c).2;rw[Y]at U
   cases U
  refine{_,Z++[z],rfl,de,?_,by rw[ax,ll];rfl,yQ nd di,fun y hy=>?_,?_}
  ·show upd _ d _ d=_;rw[ah];show some (HO.dK (iY (quT (qs.take j) Z) (Sum.inr nm) (.ref z)))=some (HO.dK (quT (qs.take (j+1)) (Z++[z])));unfold quT;rw[Hg ll J,cu];unfold rB;rw[uM];rfl
  ·rcases bM.mp hy with c|c
   ·obtain⟨c1,c2⟩:=li y c;refine{c1,?_};rw[aL (o6 c2 W (by intro e;cases e)),aL (aw c2 Y)];exact c2
   ·rw[aA.mp c];refine{fz,?_};rw[aL O.symm];exact ah
  ·intro c o hc;have c2:=sm _ _ hc;have cd:c≠d:=aw hc hd;rw[aL cd,aL (aw c2 Y)];exact c2
 ·rintro σ G ⟨g,Z,rfl,jl,W,ll,nd,li,sm⟩;rw[av]at ll W;rw[eg]at W;refine{_,rfl,t,_,_,_,rfl,rfl,SqT.of (sm _ _ ht),a1,b,vb,_,rfl,sm _ _ hb,gU.same sm dj,by rw[av];omega,fun e he=>?_};have s2:aY G (upd G e (.dK (Ny ps))):=aH he _;refine{_,rfl,?_};intro x I nx dc cs;refine{x,I,_,_,_,_,rfl,ah,fun H' hx bt=>{rfl,k x I e d Z H' ?_}};have up:∀{c:aa} {o:HO},upd G e (.dK (Ny ps)) c=some o->H' c=some o:=fun {c o} hc=>by
   have cx:c≠x:=aw hc nx;refine bt c o ?_ cx;rw[aL cx,aL (aw hc dc)];exact hc
  exact{hx,up ah,up (s2 _ _ W),ll,nd,fun z Y=>{(li z Y).1,up (s2 _ _ (li z Y).2)},sm.free (s2.free nx),sm.free he,hd,aw W he,fun c o hc=>up (s2 _ _ (sm _ _ hc))}
end
section
variable{κ:Type}[DecidableEq κ]
theorem BK:∀(ps m:List (κ×V)),((m++ps).map (·.1)).Nodup->rB ps m=m++ps
 | [],m,_=>by simp[rB]
 |p::r,m,h=>by
  have nk:jN m p.1=none:=by
   cases e:jN m p.1 with
   |none=>rfl
   |some v=>
    exfalso;rw[cu,cm]at h;exact (iK.mp h).2.2 p.1 (Cq e) p.1 aC rfl
  show rB r (iY m p.1 p.2)=_;rw[z5 p.2 nk,BK r (m++[(p.1,p.2)]) (by rw[g9];exact h),g9];rfl
end
theorem gU.tups{H H':Hp}(s:∀t xs,H t=some (.tup xs)->H' t=some (.tup xs)):∀{ps:List (Str×Int)} {vs:List V},gU H ps vs->gU H' ps vs
 | [],_,h=>by
  cases h;exact .nil
 |p::ps,_,h=>by
  cases h with
  |cons a b=>
   obtain⟨t,e,h⟩:=a;exact .cons {t,e,s _ _ h} (gU.tups s (ps:=ps) b)
def CI:List Str:=["plus","less","times","part","rest","below","same"]
inductive Fm where
 |num(n:Int)
 |box(x:Str)
 |long(x:Str)
 |got(j:Bool)
 |now
 |two(k:Str)(f g:Fm)
def Fm.depth:Fm->Nat
 |.two _ f g=>max f.depth g.depth+1
 |_=>1
inductive Rs where
 |ok(r:Int)
 |nought
 |great
def As(k:Str)(a b:Int):Rs:=
 if k="plus" then .ok (a+b) else if k="less" then .ok (a-b) else if k="times" then .ok (a*b) else if k="below" then .ok (if a<b then 1 else 0)
 else if k="same" then .ok (if a=b then 1 else 0) else if b=0 then .nought else if k="part" then .ok (a.fdiv b) else .ok (a.fmod b)
def sR(r:Int):Int:=if r<0 then -r else r
def cap:Rs->Rs
 |.ok r=>if 10^15<sR r then .great else .ok r
 |.nought=>.nought
 |.great=>.great
structure y9 where
 bx:Str->Int
 lg:Str->Nat
 g0:Int
 g1:Int
 nw:Int
def ev(e:y9):Fm->Rs
 |.num n=>.ok n
 |.box x=>.ok (e.bx x)
 |.long x=>.ok (e.lg x)
 |.got j=>.ok (if j then e.g1 else e.g0)
 |.now=>.ok e.nw
 |.two k f g=>match ev e f with
  |.ok a=>(match ev e g with
   |.ok b=>cap (As k a b)
   |.nought=>.nought
   |.great=>.great)
  |.nought=>.nought
  |.great=>.great
def Wo(a:Int):Prop:=-(10^15)<=a/\a<=10^15
structure y9.Ok(e:y9)(bs qs:List Str):Prop where
 bx:∀x∈bs,Wo (e.bx x)
 lg:∀x∈qs,e.lg x<=1000
 g0:Wo e.g0
 g1:Wo e.g1
 nw:Wo e.nw
inductive jy(bs qs:List Str)(H:Hp):V->Fm->Prop where
 |num{t:aa}{n:Int}:H t=some (.tup [.str "number",.int n])->Wo n->jy bs qs H (.ref t) (.num n)
 |box{t:aa}{x:Str}:H t=some (.tup [.str "box",.str x])->x∈bs->jy bs qs H (.ref t) (.box x)
 |long{t:aa}{x:Str}:H t=some (.tup [.str "long",.str x])->x∈qs->jy bs qs H (.ref t) (.long x)
 |got{t:aa}{j:Bool}:H t=some (.tup [.str "got",.int (if j then 1 else 0)])->jy bs qs H (.ref t) (.got j)
 |now{t:aa}:H t=some (.tup [.str "now"])->jy bs qs H (.ref t) .now
 |two{t:aa}{k:Str}{u v:V}{f g:Fm}:H t=some (.tup [.str k,u,v])->k∈CI->jy bs qs H u f->jy bs qs H v g->jy bs qs H (.ref t) (.two k f g)
theorem jy.mono{bs qs:List Str}{H H':Hp}{v:V}{f:Fm}(h:jy bs qs H v f)(s:∀t xs,H t=some (.tup xs)->H' t=some (.tup xs)):jy bs qs H' v f:=by
 induction h with
 |num h1 h2=>exact .num (s _ _ h1) h2
 |box h1 h2=>exact .box (s _ _ h1) h2
 |long h1 h2=>exact .long (s _ _ h1) h2
 |got h1=>exact .got (s _ _ h1)
 |now h1=>exact .now (s _ _ h1)
 |two h1 h2 _ _ i1 i2=>exact .two (s _ _ h1) h2 i1 i2
theorem jy.same{bs qs:List Str}{H H':Hp}{v:V}{f:Fm}(h:jy bs qs H v f)(s:aY H H'):jy bs qs H' v f:=h.mono fun _ _ e=>s _ _ e
theorem Hh{r:Int}(h:¬10^15<sR r):Wo r:=by
 unfold sR at h;unfold Wo
 split at h<;>omega
theorem Hi{r:Int}(h:Wo r):¬10^15<sR r:=by
 unfold Wo at h;unfold sR
 split<;>omega
theorem Nz{x:Rs}{r:Int}(h:cap x=.ok r):Wo r:=by
 cases x with
 |ok y=>
  unfold cap at h;dsimp only at h
  by_cases c:10^15<sR y
  ·rw[if_pos c]at h
   cases h
  ·rw[if_neg c]at h
   cases h;exact Hh c
 |nought=>cases h
 |great=>cases h
theorem lg_wo{n:Nat}(h:n<=1000):Wo (n:Int):=by
 unfold Wo;omega
theorem uN{bs qs:List Str}{H:Hp}{e:y9}(ok:e.Ok bs qs){v:V}{f:Fm}(h:jy bs qs H v f):∀{r:Int},ev e f=.ok r->Wo r:=by
 induction h with
 |num h1 h2=>
  intro r q;unfold ev at q
  cases q;exact h2
 |box h1 h2=>
  intro r q;unfold ev at q
  cases q;exact ok.bx _ h2
 |long h1 h2=>
  intro r q;unfold ev at q
  cases q;exact lg_wo (ok.lg _ h2)
 |@got t j h1=>
  intro r q;unfold ev at q
  cases q
  cases j
  ·exact ok.g0
  ·exact ok.g1
 |now h1=>
  intro r q;unfold ev at q
  cases q;exact ok.nw
 |@two t k u v f g h1 h2 _ _ i1 i2=>
  intro r q;unfold ev at q
  cases e1:ev e f with
  |ok a=>
   rw[e1]at q
   cases e2:ev e g with
   |ok b=>
    rw[e2]at q;exact Nz q
   |nought=>rw[e2]at q;cases q
   |great=>rw[e2]at q;cases q
  |nought=>rw[e1]at q;cases q
  |great=>rw[e1]at q;cases q
def yh(CN CG:aa)(r:Rs)(Q:VK)(E:XK)(H:Hp):Prop:=match r with
 |.ok r=>Q (.int r) H
 |.nought=>E (.ref CN) none H
 |.great=>E (.ref CG) none H
section
variable{P:aK}{w:bD}{K:ae}{mg:Str->Option af}{base:cB}{f fD fT fL CN CG CM CS:aa}{fd fdD fdT fdL:bU}
structure Fts(K:ae)(mg:Str->Option af)(CN CG:aa):Prop where
 mN:mg "Nought"=some (.ref CN)
 mG:mg "Great"=some (.ref CG)
 xN:cR K CN oN "ValueError.__new__"=true
 xG:cR K CG oN "ValueError.__new__"=true
 nn:dD K (.ref CN) (.ref CN)=some true
 gn:dD K (.ref CG) (.ref CN)=some false
 gg:dD K (.ref CG) (.ref CG)=some true
inductive Hj(CN:aa)(vs:List V)(H:Hp)(Q:VK)(E:XK):Prop where
 |mk(k:Str)(a b:Int)(_:vs=[.str k,.int a,.int b])(_:Wo b)(_:(b=0->E (.ref CN) none H))(_:(¬b=0->k="part"->Q (.int (a.fdiv b)) H))(_:(¬b=0->¬k="part"->Q (.int (a.fmod b)) H)):Hj CN vs H Q E
def Lv(CN:aa):Sp:=fun vs H Q E=>Hj CN vs H Q E
theorem scDv:bO ["kind","first","second"] ["kind","first","second"] (aN eC):={}
theorem za{a b:Int}(h:V.int a=V.int b):a=b:=V.int.inj h
theorem ue{a b:Str}(h:V.str a=V.str b):a=b:=V.str.inj h
theorem NA(D:Df K mg "number_of_division" eC ["kind","first","second"] f fd)(T:Fts K mg CN CG):bC P w K mg base (CXo P w) 1 f fd ["kind","first","second"] (Lv CN):=by
 refine D.F.okX scDv (fun vs H Q E h=>?_) (fun Z A outer s H vs Q E hr h=>?_)
 ·obtain⟨k,a,b,rfl,_⟩:=h;rfl
 obtain⟨k,a,b,rfl,hb,h1,h2,Y⟩:=h;refine{_,aj (cW (bN fh (pv 2) au (bY _)) (aD (jF dO rfl rfl T.mN T.xN (aq cg ai))) cj)
  (aj (cW (bN fh (pv 0) cg (bY _)) (aD (bQ (cL F3 (pv 1) (pv 2)))) cj)
  (aD (bQ (cL Jh (pv 1) (pv 2))))),?_}
 refine{_,rfl,rfl,_,rfl,?_};refine gH (fun c=>?_) (fun c=>?_)
 ·exact{(by show 1<=aB;decide),h1 (za (kD c))}
 ·have nb:¬b=0:=fun z=>kQ c (by rw[z]);refine{_,rfl,rfl,_,rfl,?_};refine gH (fun c2=>?_) (fun c2=>?_)
  ·refine{_,rfl,_,rfl,_,_,rfl,rfl,{nb,?_},h2 nb (ue (kD c2))};unfold Wo at hb;omega
  ·exact{_,rfl,_,rfl,_,_,rfl,rfl,nb,Y nb (fun z=>kQ c2 (by rw[z]))}
inductive Hk(CN CG:aa)(vs:List V)(H:Hp)(Q:VK)(E:XK):Prop where
 |mk(k:Str)(a b:Int)(_:vs=[.str k,.int a,.int b])(_:Wo a)(_:Wo b)(_:yh CN CG (As k a b) Q E H):Hk CN CG vs H Q E
def Lw(CN CG:aa):Sp:=fun vs H Q E=>Hk CN CG vs H Q E
theorem scTw:bO ["kind","first","second"] ["kind","first","second"] (aN gS):={}
theorem NB(D:Df K mg "number_of_two" gS ["kind","first","second"] f fd)(Z:Df K mg "number_of_division" eC ["kind","first","second"] fD fdD)(T:Fts K mg CN CG) :
  bC P w K mg base (CXo P w) 2 f fd ["kind","first","second"] (Lw CN CG):=by
 have U:bC P w K mg base (CXo P w) 1 fD fdD ["kind","first","second"] (Lv CN):=NA Z T;refine D.F.okX scTw (fun vs H Q E h=>?_) (fun V A outer s H vs Q E hr h=>?_)
 ·obtain⟨k,a,b,rfl,_⟩:=h;rfl
 obtain⟨k,a,b,rfl,ha,hb,h⟩:=h;unfold As at h;refine{_,aj (cW (bN fh (pv 0) cg (bY _)) (aD (bQ (cL gK (pv 1) (pv 2)))) cj)
  (aj (cW (bN fh (pv 0) cg (bY _)) (aD (bQ (cL jn (pv 1) (pv 2)))) cj)
  (aj (cW (bN fh (pv 0) cg (bY _)) (aD (bQ (cL rG (pv 1) (pv 2)))) cj)
  (aj (cW (bN fh (pv 0) cg (bY _)) (aD (bQ (rZ (bN rj (pv 1) (pv 2) (bY _)) au au))) cj)
  (aj (cW (bN fh (pv 0) cg (bY _)) (aD (bQ (rZ (bN fh (pv 1) (pv 2) (bY _)) au au))) cj)
  (aD (bQ (aM U hr rfl Z.m Z.F.kp Z.b .nil (dO.passes fun _ _ _ z=>z) (aq (pv 0) (aq (pv 1) (aq (pv 2) ai)))))))))),?_}
 refine{_,rfl,rfl,_,rfl,gH (fun c=>?_) (fun c=>?_)}
 ·rw[if_pos (ue (kD c))]at h;exact{_,rfl,_,rfl,_,_,rfl,rfl,h}
 rw[if_neg fun z=>kQ c (by rw[z])]at h;refine{_,rfl,rfl,_,rfl,gH (fun c=>?_) (fun c=>?_)}
 ·rw[if_pos (ue (kD c))]at h;exact{_,rfl,_,rfl,_,_,rfl,rfl,h}
 rw[if_neg fun z=>kQ c (by rw[z])]at h;refine{_,rfl,rfl,_,rfl,gH (fun c=>?_) (fun c=>?_)}
 ·rw[if_pos (ue (kD c))]at h;refine{_,rfl,_,rfl,_,_,rfl,rfl,.inl {?_,?_},h}
  ·unfold Wo at ha;omega
  ·unfold Wo at ha;omega
 rw[if_neg fun z=>kQ c (by rw[z])]at h;refine{_,rfl,rfl,_,rfl,gH (fun c=>?_) (fun c=>?_)}
 ·rw[if_pos (ue (kD c))]at h;refine{_,rfl,_,rfl,_,_,rfl,rfl,_,rfl,gH (fun c2=>?_) (fun c2=>?_)}
  ·rw[if_pos (kD c2)]at h;exact h
  ·rw[if_neg (kQ c2)]at h;exact h
 rw[if_neg fun z=>kQ c (by rw[z])]at h;refine{_,rfl,rfl,_,rfl,gH (fun c=>?_) (fun c=>?_)}
 ·rw[if_pos (ue (kD c))]at h;refine{_,rfl,_,rfl,rfl,_,rfl,gH (fun c2=>?_) (fun c2=>?_)}
  ·rw[if_pos (za (kD c2))]at h;exact h
  ·rw[if_neg fun z=>kQ c2 (by rw[z])]at h;exact h
 rw[if_neg fun z=>kQ c (by rw[z])]at h;refine{_,rfl,_,rfl,_,rfl,k,a,b,rfl,hb,fun z=>?_,fun W Y=>?_,fun W Y=>?_}
 ·rw[if_pos z]at h;exact h
 ·rw[if_neg W,if_pos Y]at h;exact h
 ·rw[if_neg W,if_neg Y]at h;exact h
structure Holds(K:ae)(CS:aa)(bs qs:List Str)(H:Hp)(st gl:aa)(e:y9):Prop where
 ex:∃(dx bd qd:aa) (fs:List (Str×V)) (bk qk:List (Key×V)),H st=some (.ins CS dx fs)/\fs.lookup ("boxes":Str)=some (.ref bd)/\fs.lookup ("queues":Str)=some (.ref qd)/\H bd=some (.dK bk)/\H qd=some (.dK qk) /\
  (∀x∈bs,jN bk (Sum.inr x)=some (.int (e.bx x)))/\(∀x∈qs,∃l xs,jN qk (Sum.inr x)=some (.ref l)/\H l=some (.lst xs)/\xs.length=e.lg x)
 hgl:H gl=some (.lst [.int e.g0,.int e.g1])
inductive CJ(K:ae)(CS:aa)(bs qs:List Str)(vs:List V)(H:Hp)(Q:VK)(_e:XK):Prop where
 |mk(v:V)(F:Fm)(st gl:aa)(e:y9)(_:vs=[v,.ref st,.int e.nw,.ref gl])(_:jy bs qs H v F)(_:F.depth<=1)(_:Holds K CS bs qs H st gl e)(_:∀r,ev e F=.ok r->Q (.int r) H):CJ K CS bs qs vs H Q _e
def Hl(K:ae)(CS:aa)(bs qs:List Str):Sp:=fun vs H Q Z=>CJ K CS bs qs vs H Q Z
theorem scLf:bO ["formula","state","now","got","kind"] ["formula","state","now","got"] (aN gI):={}
theorem Hm:¬(("box":Str)="number")/\¬(("long":Str)="number")/\¬(("long":Str)="box")/\¬(("got":Str)="number")/\¬(("got":Str)="box")/\¬(("got":Str)="long")/\¬(("now":Str)="number")/\¬(("now":Str)="box")/\¬(("now":Str)="long")/\¬(("now":Str)="got"):=by decide +kernel
theorem ve{a b:Str}(h:¬a=b):decide (V.str a=V.str b)=false:=decide_eq_false fun z=>h (V.str.inj z)
theorem EE(a:Str):decide (V.str a=V.str a)=true:=decide_eq_true rfl
theorem oa{c:Bool}{b:Bool}{p q:Prop}(h:c=b)(t:if b=true then p else q):if c=true then p else q:=by
 rw[h];exact t
theorem JT{bs qs:List Str}(D:Df K mg "number_of_leaf" gI ["formula","state","now","got"] f fd)(T:MdT K mg CM CS)(B:Bl mg):bC P w K mg base CX0 1 f fd ["formula","state","now","got"] (Hl K CS bs qs):=by
 refine D.F.ok scLf (fun vs H Q E h=>?_) (fun V A outer s H vs Q E hr h=>?_)
 ·obtain⟨v,F,st,Z,e,rfl,_⟩:=h;rfl
 obtain⟨v,F,st,Z,e,rfl,hF,hd,⟨⟨dx,bd,qd,fs,bk,qk,h1,h2,M,J,h5,O,h7⟩,W⟩,q⟩:=h;have hu:=mC hr;refine{_,aj (bE (i:=4) scLf.nd rfl (Or.inl rfl) (bR cv (pv 0) au (fun _ _=>rfl)))
  (aj (cW (bN fh (pv 4) cg (bY _)) (aD (bQ (bR cv (pv 0) au (fun _ _=>rfl)))) cj)
  (aj (cW (bN fh (pv 4) cg (bY _)) (aD (bQ (qO hu (cU (pv 1) rfl) (bR cv (pv 0) au (fun _ _=>rfl)) (fun _ _=>rfl)))) cj)
  (aj (cW (bN fh (pv 4) cg (bY _)) (aD (bQ (cO ic (by rfl) B.len cb (aq (qO hu (cU (pv 1) rfl) (bR cv (pv 0) au (fun _ _=>rfl)) (fun _ _=>rfl)) ai)))) cj)
  (aj (cW (bN fh (pv 4) cg (bY _)) (aD (bQ (bR dB (pv 3) (bR cv (pv 0) au (fun _ _=>rfl)) (fun _ _=>rfl)))) cj)
  (aD (bQ (pv 2))))))),?_}
 obtain⟨k1,k2,k3,U,k5,k6,k7,k8,I,Y⟩:=Hm
 cases hF with
 |@num t n ht hn=>
  refine{_,rfl,t,_,_,_,rfl,rfl,SqT.of ht,rfl,_,rfl,rfl,_,rfl,oa (EE _) (iA ?_)};exact{_,rfl,t,_,_,_,rfl,rfl,SqT.of ht,rfl,q _ rfl}
 |@box t x ht hx=>
  refine{_,rfl,t,_,_,_,rfl,rfl,SqT.of ht,rfl,_,rfl,rfl,_,rfl,oa (ve k1) (gu ?_)};refine{_,rfl,rfl,_,rfl,oa (EE _) (iA ?_)};exact{_,rfl,st,CS,dx,_,_,rfl,h1,T.clS,T.nB,h2,_,rfl,t,_,_,_,rfl,rfl,SqT.of ht,rfl,bd,_,rfl,(by have z:=pI.k (k:=Sum.inr x) J;rw[O x hx]at z;exact z),q _ rfl}
 |@long t x ht hx=>
  obtain⟨l,xs,g1,g,g3⟩:=h7 x hx;refine{_,rfl,t,_,_,_,rfl,rfl,SqT.of ht,rfl,_,rfl,rfl,_,rfl,oa (ve k2) (gu ?_)};refine{_,rfl,rfl,_,rfl,oa (ve k3) (gu ?_)};refine{_,rfl,rfl,_,rfl,oa (EE _) (iA ?_)};exact{_,rfl,st,CS,dx,_,_,rfl,h1,T.clS,T.nQ,M,_,rfl,t,_,_,_,rfl,rfl,SqT.of ht,rfl,qd,_,rfl,(by have z:=pI.k (k:=Sum.inr x) h5;rw[g1]at z;exact z),l,xs,rfl,.inl (SqL.of g),q _ (by rw[g3];rfl)}
 |@got t j ht=>
  refine{_,rfl,t,_,_,_,rfl,rfl,SqT.of ht,rfl,_,rfl,rfl,_,rfl,oa (ve U) (gu ?_)};refine{_,rfl,rfl,_,rfl,oa (ve k5) (gu ?_)};refine{_,rfl,rfl,_,rfl,oa (ve k6) (gu ?_)};refine{_,rfl,rfl,_,rfl,oa (EE _) (iA ?_)}
  cases j
  ·exact{_,rfl,_,rfl,t,_,_,_,rfl,rfl,SqT.of ht,rfl,Z,_,_,_,rfl,rfl,SqL.of W,rfl,q _ rfl}
  ·exact{_,rfl,_,rfl,t,_,_,_,rfl,rfl,SqT.of ht,rfl,Z,_,_,_,rfl,rfl,SqL.of W,rfl,q _ rfl}
 |@now t ht=>
  refine{_,rfl,t,_,_,_,rfl,rfl,SqT.of ht,rfl,_,rfl,rfl,_,rfl,oa (ve k7) (gu ?_)};refine{_,rfl,rfl,_,rfl,oa (ve k8) (gu ?_)};refine{_,rfl,rfl,_,rfl,oa (ve I) (gu ?_)};refine{_,rfl,rfl,_,rfl,oa (ve Y) (gu ?_)};exact{_,rfl,q _ rfl}
 |@two t k u v f1 f2 ht hk h1 h2=>
  have z1:0<f1.depth:=by cases f1<;>exact qv _
  unfold Fm.depth at hd;omega
inductive Lx(K:ae)(CS CN CG:aa)(bs qs:List Str)(n:Nat)(vs:List V)(H:Hp)(Q:VK)(E:XK):Prop where
 |mk(v:V)(F:Fm)(st gl:aa)(e:y9)(_:vs=[v,.ref st,.int e.nw,.ref gl])(_:jy bs qs H v F)(_:F.depth<=n)(_:Holds K CS bs qs H st gl e)(_:e.Ok bs qs)(_:yh CN CG (ev e F) Q E H):Lx K CS CN CG bs qs n vs H Q E
def Hn(K:ae)(CS CN CG:aa)(bs qs:List Str)(n:Nat):Sp:=fun vs H Q E=>Lx K CS CN CG bs qs n vs H Q E
theorem Ho:bO ["formula","state","now","got","first","second","number"] ["formula","state","now","got"] (aN lL):={}
theorem JU{bs qs:List Str}{H:Hp}{v:V}{F:Fm}(h:jy bs qs H v F):(∃t xs,v=.ref t/\H t=some (.tup xs)/\¬(xs.length:Int)=3/\F.depth<=1/\∀e:y9,∃r,ev e F=.ok r) \/
  ∃t k u w f g,v=.ref t/\F=.two k f g/\H t=some (.tup [.str k,u,w])/\k∈CI/\jy bs qs H u f/\jy bs qs H w g:=by
 cases h with
 |num h1 h2=>exact .inl {_,_,rfl,h1,by show ¬((2:Nat):Int)=3;decide,ay _,fun e=>{_,rfl}}
 |box h1 h2=>exact .inl {_,_,rfl,h1,by show ¬((2:Nat):Int)=3;decide,ay _,fun e=>{_,rfl}}
 |long h1 h2=>exact .inl {_,_,rfl,h1,by show ¬((2:Nat):Int)=3;decide,ay _,fun e=>{_,rfl}}
 |got h1=>exact .inl {_,_,rfl,h1,by show ¬((2:Nat):Int)=3;decide,ay _,fun e=>{_,rfl}}
 |now h1=>exact .inl {_,_,rfl,h1,by show ¬((1:Nat):Int)=3;decide,ay _,fun e=>{_,rfl}}
 |two h1 h2 Y Z=>exact .inr {_,_,_,_,_,_,rfl,rfl,h1,h2,Y,Z}
theorem JV{bs qs:List Str}{n:Nat}(D:Df K mg "worth_of" lL ["formula","state","now","got"] f fd)(DT:Df K mg "number_of_two" gS ["kind","first","second"] fT fdT)(DD:Df K mg "number_of_division" eC ["kind","first","second"] fD fdD)
  (U:Df K mg "number_of_leaf" gI ["formula","state","now","got"] fL fdL) (T:Fts K mg CN CG) (g:MdT K mg CM CS) (B:Bl mg) (G:bC P w K mg base (CXo P w) (n+2) f fd ["formula","state","now","got"] (Hn K CS CN CG bs qs n)) :
  bC P w K mg base (CXo P w) (n+3) f fd ["formula","state","now","got"] (Hn K CS CN CG bs qs (n+1)):=by
 have GT:bC P w K mg base (CXo P w) 2 fT fdT ["kind","first","second"] (Lw CN CG):=NB DT DD T;have GL:bC P w K mg base CX0 1 fL fdL ["formula","state","now","got"] (Hl K CS bs qs):=JT U g B;refine D.F.okX Ho (fun vs H Q E h=>?_) (fun I A outer s H vs Q E hr h=>?_)
 ·obtain⟨v,F,st,V,e,rfl,_⟩:=h;rfl
 obtain⟨v,F,st,V,e,rfl,O,hd,ho,Z,h⟩:=h;have r2:cX 2 _:=hr.mono (by omega);have r1:cX 1 _:=hr.mono (by omega);refine{_,aj (cW (bN fh (cO ic (by rfl) B.len cb (aq (pv 0) ai)) au (bY _))
   (aj (bE (i:=4) Ho.nd rfl (Or.inl rfl) (aM G hr rfl D.m D.F.kp D.b .nil (dO.passes fun _ _ _ z=>z) (aq (bR cv (pv 0) au (fun _ _=>rfl)) (aq (pv 1) (aq (pv 2) (aq (pv 3) ai))))))
   (aj (bE (i:=5) Ho.nd rfl (Or.inl rfl) (aM G hr rfl D.m D.F.kp D.b .nil (dO.passes fun _ _ _ z=>z) (aq (bR cv (pv 0) au (fun _ _=>rfl)) (aq (pv 1) (aq (pv 2) (aq (pv 3) ai))))))
   (aD (bE (i:=6) Ho.nd rfl (Or.inl rfl) (aM GT r2 rfl DT.m DT.F.kp DT.b .nil (dO.passes fun _ _ _ z=>z) (aq (bR cv (pv 0) au (fun _ _=>rfl)) (aq (pv 4) (aq (pv 5) ai))))))))
   (aD (bE (i:=6) Ho.nd rfl (Or.inl rfl) (aM GL r1 rfl U.m U.F.kp U.b .nil bh (aq (pv 0) (aq (pv 1) (aq (pv 2) (aq (pv 3) ai))))))))
  (aj (cW (bN sj (cO FB (by rfl) B.abs boot_abs (aq (pv 6) ai)) (cL rJ au au) (bY _)) (aD (jF dO rfl rfl T.mG T.xG (aq cg ai))) cj)
  (aD (bQ (pv 6)))),?_}
 have W:Ef 10 15:={by decide,by decide,by decide};have l1:1<=aB:=by decide
 rcases JU O with⟨t,xs,rfl,ht,hx,J,hv⟩|⟨t,k,u,v',f1,M,rfl,rfl,ht,hk,h1,h2⟩
 ·obtain⟨r,bB⟩:=hv e;refine{_,rfl,t,_,rfl,.inr (SqT.of ht),rfl,_,rfl,gH (fun c=>absurd (za (kD c)) hx) (fun c=>?_)};refine{_,rfl,_,rfl,_,rfl,_,rfl,.ref t,F,st,V,e,rfl,O,J,ho,fun r' Y=>?_};refine{_,rfl,_,rfl,_,_,rfl,rfl,W,_,_,rfl,rfl,_,rfl,gH (fun c=>?_) (fun c=>?_)}
  ·exact absurd (kD c) (Hi (uN Z O Y))
  ·rw[Y]at h;exact{_,rfl,h}
 ·have d1:f1.depth<=n:=by
   unfold Fm.depth at hd;omega
  have d2:M.depth<=n:=by
   unfold Fm.depth at hd;omega
  refine{_,rfl,t,_,rfl,.inr (SqT.of ht),rfl,_,rfl,gH (fun c=>?_) (fun c=>absurd rfl (kQ c))};refine{_,rfl,t,_,_,_,rfl,rfl,SqT.of ht,rfl,_,rfl,_,rfl,_,rfl,u,f1,st,V,e,rfl,h1,d1,ho,Z,?_};unfold ev at h
  cases e1:ev e f1 with
  |nought=>rw[e1]at h;exact h
  |great=>rw[e1]at h;exact h
  |ok a=>
   rw[e1]at h;refine{_,rfl,t,_,_,_,rfl,rfl,SqT.of ht,rfl,_,rfl,_,rfl,_,rfl,v',M,st,V,e,rfl,h2,d2,ho,Z,?_}
   cases e2:ev e M with
   |nought=>rw[e2]at h;exact h
   |great=>rw[e2]at h;exact h
   |ok b=>
    rw[e2]at h;have h:yh CN CG (cap (As k a b)) Q E H:=h;refine{_,rfl,t,_,_,_,rfl,rfl,SqT.of ht,rfl,_,rfl,_,rfl,k,a,b,rfl,uN Z h1 e1,uN Z h2 e2,?_}
    cases e3:As k a b with
    |nought=>rw[e3]at h;exact h
    |great=>rw[e3]at h;exact h
    |ok r=>
     rw[e3]at h;have h':yh CN CG (if 10^15<sR r then .great else .ok r) Q E H:=h;refine{_,rfl,_,rfl,_,_,rfl,rfl,W,_,_,rfl,rfl,_,rfl,gH (fun c=>?_) (fun c=>?_)}
     ·rw[if_pos (show 10^15<sR r from kD c)]at h';exact⟨l1,h'⟩
     ·rw[if_neg (show ¬10^15<sR r from kQ c)]at h';exact{_,rfl,h'}
theorem EF(F:Fm):0<F.depth:=by cases F<;>exact qv _
theorem Ly{bs qs:List Str}(D:Df K mg "worth_of" lL ["formula","state","now","got"] f fd)(DT:Df K mg "number_of_two" gS ["kind","first","second"] fT fdT)(W:Df K mg "number_of_division" eC ["kind","first","second"] fD fdD)
  (V:Df K mg "number_of_leaf" gI ["formula","state","now","got"] fL fdL) (T:Fts K mg CN CG) (Z:MdT K mg CM CS) (B:Bl mg):∀n:Nat,bC P w K mg base (CXo P w) (n+2) f fd ["formula","state","now","got"] (Hn K CS CN CG bs qs n)
 |0=>by
  have Y:∀vs H Q E,¬Hn K CS CN CG bs qs 0 vs H Q E:=fun vs H Q E h=>by
   obtain⟨v,F,st,U,e,_,_,hd,_⟩:=h;have:=EF F;omega
  exact{fun vs H Q E h=>absurd h (Y vs H Q E),fun A outer s H args us vs Q E _ _ _ _ h=>absurd h (Y vs H Q E)}
 |n+1=>JV D DT W V T Z B (Ly D DT W V T Z B n)
end
mutual
inductive Dd where
 |put(x:Str)(f:Fm)
 |push(q:Str)(f:Fm)
 |pull(q x:Str)(o:Ds)
 |draw(x:Str)(f:Fm)
 |send(to:Int)(sg:Str)(sp:Fm)(rk:Int)(a b:Fm)
 |ife(f:Fm)(t e:Ds)
 |fin
inductive Ds where
 |nil
 |cons(d:Dd)(r:Ds)
end
inductive Flt where
 |nought
 |great
 |full
 |dry
 |span
 |late
structure Ev where
 t:Int
 r:Int
 fr:Int
 c:Int
 to:Int
 sg:Str
 a:Int
 b:Int
structure Wk where
 bx:List (Str×Int)
 qu:List (Str×List Int)
 dr:Nat
 se:Int
 wr:List Str
 out:List Ev
 en:Bool
 rk:List Fm
 qn:List Str
def Wk.len(w:Wk):Nat:=w.out.length+w.rk.length
def wH(ps:List (Str×Int))(x:Str):Int:=(ps.lookup x).getD 0
def jO(ps:List (Str×List Int))(x:Str):List Int:=(ps.lookup x).getD []
def oX{Z:Type}(ps:List (Str×Z))(x:Str)(n:Z):List (Str×Z):=ps.map fun p=>if p.1=x then (p.1,n) else p
def nj(xs:List Str)(x:Str):List Str:=if x∈xs then xs else xs++[x]
def Au(h:Ev)(w:Wk):y9:={wH w.bx,fun q=>(jO w.qu q).length,h.a,h.b,h.t}
def rck(h:Ev)(w:Wk)(f:Fm)(k:Wk->Int->Except Flt Wk):Except Flt Wk:=match ev (Au h w) f with
 |.ok n=>k {w with rk:=w.rk++[f]} n
 |.nought=>.error .nought
 |.great=>.error .great
def Hq(w:Wk)(x:Str)(n:Int):Wk:={w with bx:=oX w.bx x n,wr:=nj w.wr x}
def sendW(h:Ev)(w:Wk)(to:Int)(sg:Str)(rk t a b:Int):Wk:={w with se:=w.se+1,out:=w.out++[⟨t,rk,h.to,w.se,to,sg,a,b⟩]}
mutual
def doD(h:Ev)(ds:List Int):Dd->Wk->Except Flt Wk
 |.put x f,w=>rck h w f fun w n=>.ok (Hq w x n)
 |.push q f,w=>rck h w f fun w n=>if 30<=(jO w.qu q).length then .error .full else .ok {w with qu:=oX w.qu q (jO w.qu q++[n]),wr:=nj w.wr q,qn:=nj w.qn q}
 |.pull q x o,w=>match jO w.qu q with
  | []=>doS h ds o {w with qn:=nj w.qn q}
  |n::ns=>.ok {w with qu:=oX w.qu q ns,bx:=oX w.bx x n,wr:=nj (nj w.wr x) q,qn:=nj w.qn q}
 |.draw x f,w=>rck h w f fun w n=>if n<1 then .error .nought else if ds=[] then .error .dry else .ok (Hq {w with dr:=w.dr+1} x (ds.getD (w.dr%ds.length) 0%n))
 |.send to sg sp rk a b,w=>rck h w sp fun w n=>if n<1\/10^6<n then .error .span else rck h w a fun w x=>rck h w b fun w y=>if 10^12<h.t+n then .error .late else .ok (sendW h w to sg rk (h.t+n) x y)
 |.ife f t e,w=>rck h w f fun w n=>if n=0 then doS h ds e w else doS h ds t w
 |.fin,w=>.ok {w with en:=true}
def doS(h:Ev)(ds:List Int):Ds->Wk->Except Flt Wk
 |.nil,w=>.ok w
 |.cons d r,w=>match doD h ds d w with
  |.ok Z=>doS h ds r Z
  |.error e=>.error e
end
mutual
def Dd.deep:Dd->Nat
 |.pull _ _ o=>o.deep+1
 |.ife _ t e=>max t.deep e.deep+1
 |_=>0
def Ds.deep:Ds->Nat
 |.nil=>0
 |.cons d r=>max d.deep r.deep
end
def mP(H:Hp)(R:List V->Prop)(v:V):Prop:=∃l vs,v=.ref l/\H l=some (.lst vs)/\vs.length<1000/\R vs
def FmI(bs qs:List Str)(H:Hp)(v:V)(f:Fm):Prop:=jy bs qs H v f/\f.depth<=15
mutual
def eK(bs qs:List Str)(H:Hp):Dd->V->Prop
 |.put x f,v=>∃t u,v=.ref t/\H t=some (.tup [.str "put",.str x,u])/\x∈bs/\FmI bs qs H u f
 |.push q f,v=>∃t u,v=.ref t/\H t=some (.tup [.str "push",.str q,u])/\q∈qs/\FmI bs qs H u f
 |.pull q x o,v=>∃t u,v=.ref t/\H t=some (.tup [.str "pull",.str q,.str x,u])/\q∈qs/\x∈bs/\mP H (fJ bs qs H o) u
 |.draw x f,v=>∃t u,v=.ref t/\H t=some (.tup [.str "draw",.str x,u])/\x∈bs/\FmI bs qs H u f
 |.send to sg sp rk a b,v=>∃t u u1 u2,v=.ref t/\H t=some (.tup [.str "send",.int to,.str sg,u,.int rk,u1,u2])/\FmI bs qs H u sp/\FmI bs qs H u1 a/\FmI bs qs H u2 b
 |.ife f x y,v=>∃t u u1 u2,v=.ref t/\H t=some (.tup [.str "if",u,u1,u2])/\FmI bs qs H u f/\mP H (fJ bs qs H x) u1/\mP H (fJ bs qs H y) u2
 |.fin,v=>∃t,v=.ref t/\H t=some (.tup [.str "end"])
def fJ(bs qs:List Str)(H:Hp):Ds->List V->Prop
 |.nil,vs=>vs=[]
 |.cons d r,vs=>∃v Z,vs=v::Z/\eK bs qs H d v/\fJ bs qs H r Z
end
theorem mP.same{H H':Hp}(s:aY H H'){R Z:List V->Prop}(f:∀vs,R vs->Z vs){v:V}(h:mP H R v):mP H' Z v:=by
 obtain⟨l,vs,e,h1,h2,Y⟩:=h;exact{l,vs,e,s _ _ h1,h2,f vs Y}
theorem FmI.same{bs qs:List Str}{H H':Hp}(s:aY H H'){v:V}{f:Fm}(h:FmI bs qs H v f):FmI bs qs H' v f:={h.1.same s,h.2}
mutual
theorem eK.same{bs qs:List Str}{H H':Hp}(s:aY H H'):∀(d:Dd) (v:V),eK bs qs H d v->eK bs qs H' d v
 |.put x f,v,h=>by
  obtain⟨t,u,e,h1,h2,Z⟩:=(by simpa only[eK] using h);simp only[eK];exact{t,u,e,s _ _ h1,h2,Z.same s}
 |.push q f,v,h=>by
  obtain⟨t,u,e,h1,h2,Z⟩:=(by simpa only[eK] using h);simp only[eK];exact{t,u,e,s _ _ h1,h2,Z.same s}
 |.pull q x o,v,h=>by
  obtain⟨t,u,e,h1,h2,Z,Y⟩:=(by simpa only[eK] using h);simp only[eK];exact{t,u,e,s _ _ h1,h2,Z,Y.same s (fJ.same s o)}
 |.draw x f,v,h=>by
  obtain⟨t,u,e,h1,h2,Z⟩:=(by simpa only[eK] using h);simp only[eK];exact{t,u,e,s _ _ h1,h2,Z.same s}
 |.send to sg sp rk a b,v,h=>by
  obtain⟨t,u,u1,u2,e,h1,h2,Z,Y⟩:=(by simpa only[eK] using h);simp only[eK];exact{t,u,u1,u2,e,s _ _ h1,h2.same s,Z.same s,Y.same s}
 |.ife f x y,v,h=>by
  obtain⟨t,u,u1,u2,e,h1,h2,Z,Y⟩:=(by simpa only[eK] using h);simp only[eK];exact{t,u,u1,u2,e,s _ _ h1,h2.same s,Z.same s (fJ.same s x),Y.same s (fJ.same s y)}
 |.fin,v,h=>by
  obtain⟨t,e,h1⟩:=(by simpa only[eK] using h);simp only[eK];exact{t,e,s _ _ h1}
theorem fJ.same{bs qs:List Str}{H H':Hp}(s:aY H H'):∀(d:Ds) (vs:List V),fJ bs qs H d vs->fJ bs qs H' d vs
 |.nil,vs,h=>by
  simpa only[fJ] using h
 |.cons d r,vs,h=>by
  obtain⟨v,Z,e,h1,h2⟩:=(by simpa only[fJ] using h);simp only[fJ];exact{v,Z,e,eK.same s d v h1,fJ.same s r Z h2}
end
def hZ(H:Hp)(v:V)(e:Ev):Prop:=∃t k,v=.ref t/\H t=some (.tup [.ref k,.int e.to,.str e.sg,.int e.a,.int e.b])/\H k=some (.tup [.int e.t,.int e.r,.int e.fr,.int e.c])
theorem hZ.same{H H':Hp}(s:aY H H'){v:V}{e:Ev}(h:hZ H v e):hZ H' v e:=by
 obtain⟨t,k,e1,h1,h2⟩:=h;exact{t,k,e1,s _ _ h1,s _ _ h2}
def boK(ps:List (Str×Int)):List (Key×V):=ps.map fun p=>((Sum.inr p.1:Key),V.int p.2)
def quK(ps:List (Str×aa)):List (Key×V):=ps.map fun p=>((Sum.inr p.1:Key),V.ref p.2)
def wrK(xs:List Str):List (Key×V):=xs.map fun x=>((Sum.inr x:Key),V.bl true)
theorem sT{Z:Type}(g:Z->V)(x:Str):∀ps:List (Str×Z),jN (ps.map fun p=>((Sum.inr p.1:Key),g p.2)) (Sum.inr x)=(ps.lookup x).map g
 | []=>rfl
 |p::ps=>by
  rw[cm]
  by_cases c:p.1=x
  ·rw[p6 (by rw[c])];obtain⟨a,b⟩:=p;dsimp only at c;subst c;rw[bT];rfl
  ·rw[p7 (fun z=>c (kf z)),sT g x ps];obtain⟨a,b⟩:=p;dsimp only at c;rw[cG];have:(x==a)=false:=beq_eq_false_iff_ne.mpr fun z=>c z.symm;rw[this]
theorem JW{Z:Type}(g:Z->V)(x:Str)(n:Z){ps:List (Str×Z)}(h:(ps.lookup x).isSome=true):iY (ps.map fun p=>((Sum.inr p.1:Key),g p.2)) (Sum.inr x) (g n)=(oX ps x n).map fun p=>((Sum.inr p.1:Key),g p.2):=by
 unfold iY;rw[ko,sT,m5,h,if_pos rfl];unfold oX;rw[dR,dR];apply ia;intro p _
 by_cases c:p.1=x
 ·simp only[q5,c,if_true]
 ·simp only[q5,if_neg c,if_neg (fun z=>c (kf z):¬(Sum.inr p.1:Key)=Sum.inr x)]
theorem CO(xs:List Str)(x:Str):jN (wrK xs) (Sum.inr x)=if x∈xs then some (.bl true) else none:=by
 induction xs with
 |nil=>rfl
 |cons y xs Z=>
  unfold wrK at Z |-;rw[cm]
  by_cases c:y=x
  ·rw[p6 (by rw[c]),if_pos (by rw[c];exact aC)]
  ·rw[p7 (fun z=>c (kf z)),Z]
   by_cases m:x∈xs
   ·rw[if_pos m,if_pos (ag _ m)]
   ·rw[if_neg m,if_neg];intro z
    rcases ar.mp z with z|z
    ·exact c z.symm
    ·exact m z
theorem CQ(xs:List Str)(x:Str):iY (wrK xs) (Sum.inr x) (.bl true)=wrK (nj xs x):=by
 unfold iY;rw[ko,CO]
 by_cases m:x∈xs
 ·rw[if_pos m];unfold nj;rw[if_pos m];show (if true=true then _ else _)=_;rw[if_pos rfl];unfold wrK;rw[dR];apply ia;intro y _
  by_cases c:y=x
  ·simp only[q5,c,if_true]
  ·simp only[q5,if_neg (fun z=>c (kf z):¬(Sum.inr y:Key)=Sum.inr x)]
 ·rw[if_neg m];unfold nj;rw[if_neg m];show (if false=true then _ else _)=_;rw[if_neg (by decide)];unfold wrK;rw[cu];rfl
theorem yi{Z:Type}(ps:List (Str×Z))(x:Str)(n:Z):(oX ps x n).map (·.1)=ps.map (·.1):=by
 unfold oX;rw[dR];apply ia;intro p _;show (if p.1=x then (p.1,n) else p).1=p.1
 split<;>rfl
theorem og{Z:Type}{x:Str}:∀{ps:List (Str×Z)},x∈ps.map (·.1)->∃a,ps.lookup x=some a/\(x,a)∈ps
 | [],h=>by cases h
 |p::ps,h=>by
  obtain⟨k,a⟩:=p
  by_cases c:x=k
  ·subst c;exact⟨a,bT,aC⟩
  ·have h':x∈ps.map (·.1):=by
    rcases ar.mp h with z|z
    ·exact absurd z c
    ·exact z
   obtain⟨b,h1,h2⟩:=og h';refine{b,?_,ag _ h2};rw[cG,beq_eq_false_iff_ne.mpr c];exact h1
theorem Av{Z:Type}{x:Str}{n:Z}{ps:List (Str×Z)}{q:Str×Z}(h:q∈oX ps x n):q∈ps\/q.2=n:=by
 obtain⟨p,hp,e⟩:=cH.mp h
 by_cases c:p.1=x
 ·rw[if_pos c]at e;subst e;exact .inr rfl
 ·rw[if_neg c]at e;subst e;exact .inl hp
structure DT(K:ae)(mg:Str->Option af)(CD:aa):Prop where
 cl:Cls K CD
 nM:eI K CD "machine"
 nH:eI K CD "happening"
 nS:eI K CD "state"
 nW:eI K CD "written"
 nO:eI K CD "outgoing"
 nE:eI K CD "ends"
 nR:eI K CD "reckoned"
 nQ:eI K CD "queued"
 mD:mg "Doing"=some (.ref CD)
def dF(m h:V)(st wd od:aa)(en:Bool)(rd ud:aa):List (Str×V):=[("machine",m),("happening",h),("state",.ref st),("written",.ref wd),("outgoing",.ref od),("ends",.bl en),("reckoned",.ref rd),("queued",.ref ud)]
abbrev BL:List Str:=["machine","happening","state","written","outgoing","ends","reckoned","queued"]
theorem NC(m h:V)(st wd od:aa)(en:Bool)(rd ud:aa):(dF m h st wd od en rd ud).lookup ("machine":Str)=some m:=bT
theorem dQ{k x:Str}{v:V}{r:List (Str×V)}(h:(x==k)=false):((k,v)::r).lookup x=r.lookup x:=by rw[cG,h]
theorem JX(m h:V)(st wd od:aa)(en:Bool)(rd ud:aa):(dF m h st wd od en rd ud).lookup ("happening":Str)=some h:=by
 unfold dF;rw[dQ (by decide +kernel),bT]
theorem xB(m h:V)(st wd od:aa)(en:Bool)(rd ud:aa):(dF m h st wd od en rd ud).lookup ("state":Str)=some (.ref st):=by
 unfold dF;rw[dQ (by decide +kernel),dQ (by decide +kernel),bT]
theorem Hr(m h:V)(st wd od:aa)(en:Bool)(rd ud:aa):(dF m h st wd od en rd ud).lookup ("written":Str)=some (.ref wd):=by
 unfold dF;rw[dQ (by decide +kernel),dQ (by decide +kernel),dQ (by decide +kernel),bT]
theorem dF_o(m h:V)(st wd od:aa)(en:Bool)(rd ud:aa):(dF m h st wd od en rd ud).lookup ("outgoing":Str)=some (.ref od):=by
 unfold dF;rw[dQ (by decide +kernel),dQ (by decide +kernel),dQ (by decide +kernel),dQ (by decide +kernel),bT]
theorem dF_e(m h:V)(st wd od:aa)(en:Bool)(rd ud:aa):(dF m h st wd od en rd ud).lookup ("ends":Str)=some (.bl en):=by
 unfold dF;rw[dQ (by decide +kernel),dQ (by decide +kernel),dQ (by decide +kernel),dQ (by decide +kernel),dQ (by decide +kernel),bT]
theorem dF_r(m h:V)(st wd od:aa)(en:Bool)(rd ud:aa):(dF m h st wd od en rd ud).lookup ("reckoned":Str)=some (.ref rd):=by
 unfold dF;rw[dQ (by decide +kernel),dQ (by decide +kernel),dQ (by decide +kernel),dQ (by decide +kernel),dQ (by decide +kernel),dQ (by decide +kernel),bT]
theorem dF_u(m h:V)(st wd od:aa)(en:Bool)(rd ud:aa):(dF m h st wd od en rd ud).lookup ("queued":Str)=some (.ref ud):=by
 unfold dF;rw[dQ (by decide +kernel),dQ (by decide +kernel),dQ (by decide +kernel),dQ (by decide +kernel),dQ (by decide +kernel),dQ (by decide +kernel),dQ (by decide +kernel),bT]
theorem pB(m h:V)(st wd od:aa)(en:Bool)(rd ud:aa){x:Str}(hx:BL.contains x=false):(dF m h st wd od en rd ud).lookup x=none:=by
 have z:∀k∈BL,(x==k)=false:=fun k hk=>beq_eq_false_iff_ne.mpr fun e=>by
  rw[e,kE.mpr hk]at hx
  cases hx
 unfold dF;rw[dQ (z _ (by simp)),dQ (z _ (by simp)),dQ (z _ (by simp)),dQ (z _ (by simp)),dQ (z _ (by simp)),dQ (z _ (by simp)),dQ (z _ (by simp)),dQ (z _ (by simp))];rfl
theorem sne{a b:Str}(h:(a==b)=false):¬a=b:=fun e=>by
 rw[e,beq_self_eq_true]at h
 cases h
theorem ND(m h:V)(st wd od:aa)(en:Bool)(rd ud:aa):cJ "queued" (.ref ud) (cJ "reckoned" (.ref rd) (cJ "ends" (.bl en) (cJ "outgoing" (.ref od) (cJ "written" (.ref wd) (cJ "state" (.ref st) (cJ "happening" h (cJ "machine" m [])))))))=dF m h st wd od en rd ud:=by
 simp only[dF,cJ,if_neg (sne (a:="machine") (b:="happening") (by decide +kernel)),if_neg (sne (a:="machine") (b:="state") (by decide +kernel)),if_neg (sne (a:="machine") (b:="written") (by decide +kernel)),if_neg (sne (a:="machine") (b:="outgoing") (by decide +kernel)),if_neg (sne (a:="machine") (b:="ends") (by decide +kernel)),if_neg (sne (a:="machine") (b:="reckoned") (by decide +kernel)),if_neg (sne (a:="machine") (b:="queued") (by decide +kernel)),if_neg (sne (a:="happening") (b:="state") (by decide +kernel)),if_neg (sne (a:="happening") (b:="written") (by decide +kernel)),if_neg (sne (a:="happening") (b:="outgoing") (by decide +kernel)),if_neg (sne (a:="happening") (b:="ends") (by decide +kernel)),if_neg (sne (a:="happening") (b:="reckoned") (by decide +kernel)),if_neg (sne (a:="happening") (b:="queued") (by decide +kernel)),if_neg (sne (a:="state") (b:="written") (by decide +kernel)),if_neg (sne (a:="state") (b:="outgoing") (by decide +kernel)),if_neg (sne (a:="state") (b:="ends") (by decide +kernel)),if_neg (sne (a:="state") (b:="reckoned") (by decide +kernel)),if_neg (sne (a:="state") (b:="queued") (by decide +kernel)),if_neg (sne (a:="written") (b:="outgoing") (by decide +kernel)),if_neg (sne (a:="written") (b:="ends") (by decide +kernel)),if_neg (sne (a:="written") (b:="reckoned") (by decide +kernel)),if_neg (sne (a:="written") (b:="queued") (by decide +kernel)),if_neg (sne (a:="outgoing") (b:="ends") (by decide +kernel)),if_neg (sne (a:="outgoing") (b:="reckoned") (by decide +kernel)),if_neg (sne (a:="outgoing") (b:="queued") (by decide +kernel)),if_neg (sne (a:="ends") (b:="reckoned") (by decide +kernel)),if_neg (sne (a:="ends") (b:="queued") (by decide +kernel)),if_neg (sne (a:="reckoned") (b:="queued") (by decide +kernel))]
theorem NF(m h:V)(st wd od:aa)(en Z:Bool)(rd ud:aa):cJ "ends" (.bl Z) (dF m h st wd od en rd ud)=dF m h st wd od Z rd ud:=by
 simp only[dF,cJ,if_neg (sne (a:="machine") (b:="ends") (by decide +kernel)),if_neg (sne (a:="happening") (b:="ends") (by decide +kernel)),if_neg (sne (a:="state") (b:="ends") (by decide +kernel)),if_neg (sne (a:="written") (b:="ends") (by decide +kernel)),if_neg (sne (a:="outgoing") (b:="ends") (by decide +kernel)),if_true]
theorem j8(b q d e:V):oW b q d e=([("boxes",b),("queues",q),("drawn",d),("sent",e)]:List (Str×V)):=by
 simp only[oW,cJ,if_neg (sne (a:="boxes") (b:="queues") (by decide +kernel)),if_neg (sne (a:="boxes") (b:="drawn") (by decide +kernel)),if_neg (sne (a:="boxes") (b:="sent") (by decide +kernel)),if_neg (sne (a:="queues") (b:="drawn") (by decide +kernel)),if_neg (sne (a:="queues") (b:="sent") (by decide +kernel)),if_neg (sne (a:="drawn") (b:="sent") (by decide +kernel))]
theorem NG(b q d e d':V):cJ "drawn" d' (oW b q d e)=oW b q d' e:=by
 rw[j8,j8];simp only[cJ,if_neg (sne (a:="boxes") (b:="drawn") (by decide +kernel)),if_neg (sne (a:="queues") (b:="drawn") (by decide +kernel)),if_true]
theorem NH(b q d e e':V):cJ "sent" e' (oW b q d e)=oW b q d e':=by
 rw[j8,j8];simp only[cJ,if_neg (sne (a:="boxes") (b:="sent") (by decide +kernel)),if_neg (sne (a:="queues") (b:="sent") (by decide +kernel)),if_neg (sne (a:="drawn") (b:="sent") (by decide +kernel)),if_true]
theorem JY(b q d e:V):(oW b q d e).lookup ("boxes":Str)=some b:=by rw[j8,bT]
theorem JZ(b q d e:V):(oW b q d e).lookup ("queues":Str)=some q:=by rw[j8,dQ (by decide +kernel),bT]
theorem NI(b q d e:V):(oW b q d e).lookup ("drawn":Str)=some d:=by rw[j8,dQ (by decide +kernel),dQ (by decide +kernel),bT]
theorem NJ(b q d e:V):(oW b q d e).lookup ("sent":Str)=some e:=by rw[j8,dQ (by decide +kernel),dQ (by decide +kernel),dQ (by decide +kernel),bT]
theorem st_no(b q d e:V){x:Str}(hx:(["boxes","queues","drawn","sent"]:List Str).contains x=false):(oW b q d e).lookup x=none:=by
 have z:∀k∈(["boxes","queues","drawn","sent"]:List Str),(x==k)=false:=fun k hk=>beq_eq_false_iff_ne.mpr fun e=>by
  rw[e,kE.mpr hk]at hx
  cases hx
 rw[j8,dQ (z _ (by simp)),dQ (z _ (by simp)),dQ (z _ (by simp)),dQ (z _ (by simp))];rfl
theorem Hs(b q d e:V):(oW b q d e).length<1000:=by
 rw[j8];show 4<1000;decide
theorem NK(m h:V)(st wd od:aa)(en:Bool)(rd ud:aa):(dF m h st wd od en rd ud).length<1000:=by show 8<1000;decide
structure Lay where
 d:aa
 dx:aa
 st:aa
 dxs:aa
 bd:aa
 qd:aa
 wd:aa
 od:aa
 rd:aa
 ud:aa
 m:V
 hv:V
 qa:List (Str×aa)
def Lay.all(L:Lay):List aa:=L.d::L.st::L.bd::L.qd::L.wd::L.od::L.rd::L.ud::L.qa.map (·.2)
def gE(G:Hp):List (Str×aa)->List (Str×List Int)->Prop:=aJ fun p q=>p.1=q.1/\G p.2=some (.lst (q.2.map V.int))
structure qx(bs qs:List Str)(w:Wk):Prop where
 kb:w.bx.map (·.1)=bs
 kq:w.qu.map (·.1)=qs
 nb:bs.Nodup
 nq:qs.Nodup
 wb:∀p∈w.bx,Wo p.2
 wq:∀p∈w.qu,p.2.length<=30/\∀n∈p.2,Wo n
 nw:w.wr.Nodup
 sw:∀x∈w.wr,x∈bs++qs
 nu:w.qn.Nodup
 su:∀x∈w.qn,x∈bs++qs
 wo:∀e∈w.out,Wo e.a/\Wo e.b
 fw:(bs++qs).length<100
structure Dg(CD CS:aa)(bs qs:List Str)(H0 G:Hp)(L:Lay)(h:Ev)(ds:List Int)(w:Wk):Prop where
 sm:aY H0 G
 hd:G L.d=some (.ins CD L.dx (dF L.m L.hv L.st L.wd L.od w.en L.rd L.ud))
 hst:G L.st=some (.ins CS L.dxs (oW (.ref L.bd) (.ref L.qd) (.int w.dr) (.int w.se)))
 hb:G L.bd=some (.dK (boK w.bx))
 hq:G L.qd=some (.dK (quK L.qa))
 hl:gE G L.qa w.qu
 hw:G L.wd=some (.dK (wrK w.wr))
 ho:∃vs,G L.od=some (.lst vs)/\aJ (hZ G) vs w.out
 hr:∃rs,G L.rd=some (.lst rs)/\aJ (FmI bs qs H0) rs w.rk
 hu:G L.ud=some (.dK (wrK w.qn))
 hh:hZ H0 L.hv h
 hm:∃t x1 x2 x3 x4 dl,L.m=.ref t/\H0 t=some (.tup [x1,x2,x3,.ref dl,x4])/\H0 dl=some (.lst (ds.map V.int))
 nd:L.all.Nodup
 fr:∀a∈L.all,H0 a=none
 ok:qx bs qs w
 wt:Wo h.t
 wa:Wo h.a
 wb:Wo h.b
section
variable{CD CS:aa}{bs qs:List Str}{H0 G G':Hp}{L:Lay}{h:Ev}{ds:List Int}{w:Wk}
theorem gE.keep(k:∀a u,G a=some u->a∈L.qa.map (·.2)->G' a=some u){qa:List (Str×aa)}{qu:List (Str×List Int)}(sub:∀p∈qa,p∈L.qa)(q:gE G qa qu):gE G' qa qu:=by
 unfold gE at q |-
 induction q with
 |nil=>exact .nil
 |cons a _ Z=>exact .cons {a.1,k _ _ a.2 (cH.mpr {_,sub _ aC,rfl})} (Z fun p hp=>sub p (ag _ hp))
theorem Paired.mono{Z Y:Type}{R S:Z->Y->Prop}(f:∀a b,R a b->S a b){xs:List Z}{ys:List Y}(r:aJ R xs ys):aJ S xs ys:=L2.Paired.imp' f r
theorem Dg.same(g:Dg CD CS bs qs H0 G L h ds w)(s:aY G G'):Dg CD CS bs qs H0 G' L h ds w:=by
 obtain⟨vs,Y,Z⟩:=g.ho;obtain⟨rs,r1,r2⟩:=g.hr;exact{g.sm.trans s,s _ _ g.hd,s _ _ g.hst,s _ _ g.hb,s _ _ g.hq,g.hl.keep (L:=L) (fun a u e _=>s _ _ e) (fun _ hp=>hp),s _ _ g.hw,{vs,s _ _ Y,Paired.mono (fun _ _ z=>z.same s) Z},{rs,s _ _ r1,r2},s _ _ g.hu,g.hh,g.hm,g.nd,g.fr,g.ok,g.wt,g.wa,g.wb}
structure Lay.Ne(L:Lay):Prop where
 ds:L.d≠L.st
 db:L.d≠L.bd
 dq:L.d≠L.qd
 dw:L.d≠L.wd
 do_:L.d≠L.od
 dr:L.d≠L.rd
 du:L.d≠L.ud
 dl:∀a∈L.qa.map (·.2),L.d≠a
 sb:L.st≠L.bd
 sq:L.st≠L.qd
 sw:L.st≠L.wd
 so:L.st≠L.od
 sr:L.st≠L.rd
 su:L.st≠L.ud
 sl:∀a∈L.qa.map (·.2),L.st≠a
 bq:L.bd≠L.qd
 bw:L.bd≠L.wd
 bo:L.bd≠L.od
 br:L.bd≠L.rd
 bu:L.bd≠L.ud
 bl:∀a∈L.qa.map (·.2),L.bd≠a
 qw:L.qd≠L.wd
 qo:L.qd≠L.od
 qr:L.qd≠L.rd
 qu:L.qd≠L.ud
 ql:∀a∈L.qa.map (·.2),L.qd≠a
 wo:L.wd≠L.od
 wr:L.wd≠L.rd
 wu:L.wd≠L.ud
 wl:∀a∈L.qa.map (·.2),L.wd≠a
 or:L.od≠L.rd
 ou:L.od≠L.ud
 ol:∀a∈L.qa.map (·.2),L.od≠a
 ru:L.rd≠L.ud
 rl:∀a∈L.qa.map (·.2),L.rd≠a
 ul:∀a∈L.qa.map (·.2),L.ud≠a
 ll:(L.qa.map (·.2)).Nodup
theorem Lay.ne(nd:L.all.Nodup):L.Ne:=by
 unfold Lay.all at nd;have cut:∀{a:aa} {xs:List aa},(a::xs).Nodup->(∀b∈xs,a≠b)/\xs.Nodup:=fun {a xs} z=>by
  obtain⟨Z,Y⟩:=cK.mp z;exact{fun b hb e=>Z (by rw[e];exact hb),Y}
 obtain⟨a1,nd⟩:=cut nd;obtain⟨a2,nd⟩:=cut nd;obtain⟨a3,nd⟩:=cut nd;obtain⟨a4,nd⟩:=cut nd;obtain⟨a5,nd⟩:=cut nd;obtain⟨a6,nd⟩:=cut nd;obtain⟨a7,nd⟩:=cut nd;obtain⟨a8,nd⟩:=cut nd;have i1:∀{b:aa} {xs:List aa},b∈b::xs:=aC;have i2:∀{a b:aa} {xs:List aa},b∈xs->b∈a::xs:=fun z=>ag _ z;exact{a1 _ i1,a1 _ (i2 i1),a1 _ (i2 (i2 i1)),a1 _ (i2 (i2 (i2 i1))),a1 _ (i2 (i2 (i2 (i2 i1)))),a1 _ (i2 (i2 (i2 (i2 (i2 i1))))),a1 _ (i2 (i2 (i2 (i2 (i2 (i2 i1)))))),fun a ha=>a1 _ (i2 (i2 (i2 (i2 (i2 (i2 (i2 ha))))))),a2 _ i1,a2 _ (i2 i1),a2 _ (i2 (i2 i1)),a2 _ (i2 (i2 (i2 i1))),a2 _ (i2 (i2 (i2 (i2 i1)))),a2 _ (i2 (i2 (i2 (i2 (i2 i1))))),fun a ha=>a2 _ (i2 (i2 (i2 (i2 (i2 (i2 ha)))))),a3 _ i1,a3 _ (i2 i1),a3 _ (i2 (i2 i1)),a3 _ (i2 (i2 (i2 i1))),a3 _ (i2 (i2 (i2 (i2 i1)))),fun a ha=>a3 _ (i2 (i2 (i2 (i2 (i2 ha))))),a4 _ i1,a4 _ (i2 i1),a4 _ (i2 (i2 i1)),a4 _ (i2 (i2 (i2 i1))),fun a ha=>a4 _ (i2 (i2 (i2 (i2 ha)))),a5 _ i1,a5 _ (i2 i1),a5 _ (i2 (i2 i1)),fun a ha=>a5 _ (i2 (i2 (i2 ha))),a6 _ i1,a6 _ (i2 i1),fun a ha=>a6 _ (i2 (i2 ha)),a7 _ i1,fun a ha=>a7 _ (i2 ha),fun a ha=>a8 _ ha,nd}
theorem mQ{a:aa}{o:HO}(nt:∀xs,G a≠some (.tup xs)){vs:List V}{es:List Ev}(r:aJ (hZ G) vs es):aJ (hZ (upd G a o)) vs es:=
 Paired.mono (fun v e z=>by
  obtain⟨t,k,e1,h1,h2⟩:=z;refine{t,k,e1,?_,?_}
  ·rw[aL fun y=>nt _ (by rw[<- y];exact h1)];exact h1
  ·rw[aL fun y=>nt _ (by rw[<- y];exact h2)];exact h2) r
theorem Dg.sm_upd(g:Dg CD CS bs qs H0 G L h ds w){a:aa}(ha:a∈L.all)(o:HO):aY H0 (upd G a o):=fun b u e=>by
 rw[aL (aw e (g.fr a ha))];exact g.sm _ _ e
theorem in_d:L.d∈L.all:=aC
theorem Lz:L.st∈L.all:=ag _ aC
theorem LA:L.bd∈L.all:=ag _ (ag _ aC)
theorem in_qd:L.qd∈L.all:=ag _ (ag _ (ag _ aC))
theorem in_wd:L.wd∈L.all:=ag _ (ag _ (ag _ (ag _ aC)))
theorem LB:L.od∈L.all:=ag _ (ag _ (ag _ (ag _ (ag _ aC))))
theorem in_rd:L.rd∈L.all:=ag _ (ag _ (ag _ (ag _ (ag _ (ag _ aC)))))
theorem in_ud:L.ud∈L.all:=ag _ (ag _ (ag _ (ag _ (ag _ (ag _ (ag _ aC))))))
theorem in_l{a:aa}(h:a∈L.qa.map (·.2)):a∈L.all:=ag _ (ag _ (ag _ (ag _ (ag _ (ag _ (ag _ (ag _ h)))))))
theorem aT{o o':HO}{a b:aa}(e:G a=some o)(n:a≠b):upd G b o' a=some o:=by rw[aL n];exact e
theorem mR{o:HO}{a:aa}(e:G a=some o)(n:∀xs,o≠.tup xs):∀xs,G a≠some (.tup xs):=fun xs z=>by
 rw[e]at z
 cases z;exact n xs rfl
theorem Dg.box(g:Dg CD CS bs qs H0 G L h ds w){x:Str}{n:Int}(Z:Wo n):Dg CD CS bs qs H0 (upd G L.bd (.dK (boK (oX w.bx x n)))) L h ds {w with bx:=oX w.bx x n}:=by
 have N:=Lay.ne g.nd;obtain⟨vs,W,Y⟩:=g.ho;obtain⟨rs,r1,r2⟩:=g.hr;refine{g.sm_upd LA _,aT g.hd N.db,aT g.hst N.sb,ah,aT g.hq N.bq.symm,g.hl.keep (L:=L) (fun a u e m=>aT e (N.bl a m).symm) (fun _ hp=>hp),aT g.hw N.bw.symm,{vs,aT W N.bo.symm,mQ (mR g.hb (fun _ z=>by cases z)) Y},{rs,aT r1 N.br.symm,r2},aT g.hu N.bu.symm,g.hh,g.hm,g.nd,g.fr,?_,g.wt,g.wa,g.wb};obtain⟨kb,kq,nb,nq,wb,wq,nw,sw,nu,su,wo,fw⟩:=g.ok;refine{(yi _ _ _).trans kb,kq,nb,nq,fun p hp=>?_,wq,nw,sw,nu,su,wo,fw}
 rcases Av hp with z|z
 ·exact wb p z
 ·rw[z];exact Z
theorem CT{xs:List Str}{x:Str}(h:xs.Nodup):(nj xs x).Nodup:=by
 unfold nj
 by_cases c:x∈xs
 ·rw[if_pos c];exact h
 ·rw[if_neg c];refine iK.mpr {h,by simp,fun a ha b hb=>?_};rw[aA.mp hb];exact fun z=>c (by rw[<- z];exact ha)
theorem Aw{xs:List Str}{x y:Str}(h:y∈nj xs x):y∈xs\/y=x:=by
 unfold nj at h
 by_cases c:x∈xs
 ·rw[if_pos c]at h;exact .inl h
 ·rw[if_neg c]at h
  rcases bM.mp h with z|z
  ·exact .inl z
  ·exact .inr (aA.mp z)
theorem Ht{xs:List Str}:∀{ys:List Str},xs.Nodup->(∀x∈xs,x∈ys)->xs.length<=ys.length:=by
 induction xs with
 |nil=>intro ys _ _;exact bV _
 |cons x xs Y=>
  intro ys nd s;obtain⟨n1,n2⟩:=cK.mp nd;have hx:x∈ys:=s x aC;have:=Y (ys:=ys.erase x) n2 fun z Z=>(List.mem_erase_of_ne (fun e=>n1 (by rw[<- e];exact Z))).mpr (s z (ag _ Z));rw[List.length_erase_of_mem hx]at this;have:=List.length_pos_of_mem hx;rw[aR];omega
theorem qx.few(k:qx bs qs w):w.wr.length<100:=jE (Ht k.nw k.sw) k.fw
theorem qx.few2(k:qx bs qs w):w.qn.length<100:=jE (Ht k.nu k.su) k.fw
theorem CV(xs:List Str):(wrK xs).length=xs.length:=av _
theorem eD:1000<aB:=by decide
theorem Dg.wrote(g:Dg CD CS bs qs H0 G L h ds w){x:Str}(hx:x∈bs++qs):Dg CD CS bs qs H0 (upd G L.wd (.dK (wrK (nj w.wr x)))) L h ds {w with wr:=nj w.wr x}:=by
 have N:=Lay.ne g.nd;obtain⟨vs,Y,Z⟩:=g.ho;obtain⟨rs,r1,r2⟩:=g.hr;refine{g.sm_upd in_wd _,aT g.hd N.dw,aT g.hst N.sw,aT g.hb N.bw,aT g.hq N.qw,g.hl.keep (L:=L) (fun a u e m=>aT e (N.wl a m).symm) (fun _ hp=>hp),ah,{vs,aT Y N.wo.symm,mQ (mR g.hw (fun _ z=>by cases z)) Z},{rs,aT r1 N.wr.symm,r2},aT g.hu N.wu.symm,g.hh,g.hm,g.nd,g.fr,?_,g.wt,g.wa,g.wb};obtain⟨kb,kq,nb,nq,wb,wq,nw,sw,nu,su,wo,fw⟩:=g.ok;refine{kb,kq,nb,nq,wb,wq,CT nw,fun y hy=>?_,nu,su,wo,fw}
 rcases Aw hy with z|z
 ·exact sw y z
 ·rw[z];exact hx
theorem gE.at_{x:Str}:∀{qa:List (Str×aa)} {qu:List (Str×List Int)},gE G qa qu->x∈qu.map (·.1)->∃l,qa.lookup x=some l/\G l=some (.lst ((jO qu x).map V.int))/\l∈qa.map (·.2)
 |_,_,.nil,m=>by cases m
 |(k,l)::qa,(k',xs)::qu,.cons a b,m=>by
  obtain⟨e,ha⟩:=a;dsimp only at e ha;subst e
  by_cases c:x=k
  ·subst c;refine{l,bT,?_,aC};unfold jO;rw[bT];exact ha
  ·have Z:x∈qu.map (·.1):=by
    rcases ar.mp m with z|z
    ·exact absurd z c
    ·exact z
   obtain⟨Y,h1,h2,W⟩:=gE.at_ b Z;refine{Y,?_,?_,ag _ W}
   ·rw[cG,beq_eq_false_iff_ne.mpr c];exact h1
   ·unfold jO at h2 |-;rw[cG,beq_eq_false_iff_ne.mpr c];exact h2
theorem qy{Z:Type}{x:Str}{a:Z}:∀{ps:List (Str×Z)},ps.lookup x=some a->(x,a)∈ps
 | [],h=>by cases h
 |(k,b)::ps,h=>by
  by_cases c:x=k
  ·subst c;rw[bT]at h
   cases h;exact aC
  ·rw[cG,beq_eq_false_iff_ne.mpr c]at h;exact ag _ (qy h)
theorem EG{Z:Type}{x:Str}{n:Z}{ps:List (Str×Z)}(h:x∉ps.map (·.1)):oX ps x n=ps:=by
 unfold oX;have:∀p∈ps,(if p.1=x then (p.1,n) else p)=p:=fun p hp=>if_neg fun e=>h (cH.mpr ⟨p,hp,e⟩);rw[ia this];exact List.map_id _
theorem gE.set{x:Str}{l:aa}{ns:List Int}:∀{qa:List (Str×aa)} {qu:List (Str×List Int)},gE G qa qu->(qa.map (·.2)).Nodup->(qu.map (·.1)).Nodup->qa.lookup x=some l->gE (upd G l (.lst (ns.map V.int))) qa (oX qu x ns)
 |_,_,.nil,_,_,e=>by cases e
 |(k,Z)::qa,(k',xs)::qu,.cons a b,nd,nk,e=>by
  obtain⟨Y,ha⟩:=a;dsimp only at Y ha;subst Y;obtain⟨n1,n2⟩:=cK.mp nd;obtain⟨U,W⟩:=cK.mp nk
  by_cases c:x=k
  ·subst c;rw[bT]at e
   cases e;show gE _ _ ((if x=x then (x,ns) else (x,xs))::oX qu x ns);rw[if_pos rfl,EG U];refine .cons ⟨rfl,ah⟩ ?_;refine gE.keep (L:={0,0,0,0,0,0,0,0,0,0,.non,.non,qa}) (G:=G) (fun a u e m=>aT e fun z=>n1 (by rw[<- z];exact m)) (fun _ hp=>hp) b
  ·rw[cG,beq_eq_false_iff_ne.mpr c]at e;show gE _ _ ((if k=x then (k,ns) else (k,xs))::oX qu x ns);rw[if_neg fun z=>c z.symm];refine .cons {rfl,aT ha fun z=>n1 ?_} (gE.set b n2 W e);show Z∈qa.map (·.2);rw[show Z=l from z];exact cH.mpr {_,qy e,rfl}
theorem Dg.queue(g:Dg CD CS bs qs H0 G L h ds w){x:Str}{l:aa}{ns:List Int}(hl:L.qa.lookup x=some l)(len:ns.length<=30)(W:∀n∈ns,Wo n):Dg CD CS bs qs H0 (upd G l (.lst (ns.map V.int))) L h ds {w with qu:=oX w.qu x ns}:=by
 have N:=Lay.ne g.nd;have Z:l∈L.qa.map (·.2):=cH.mpr {_,qy hl,rfl};obtain⟨vs,M,U⟩:=g.ho;obtain⟨rs,r1,r2⟩:=g.hr;obtain⟨kb,kq,nb,nq,wb,wq,nw,sw,nu,su,wo,fw⟩:=g.ok;have Y:∃xs,G l=some (.lst xs):=by
  have key:∀{qa:List (Str×aa)} {qu:List (Str×List Int)},gE G qa qu->l∈qa.map (·.2)->∃xs,G l=some (.lst xs):=fun {qa qu} q=>by
   induction q with
   |nil=>intro m;cases m
   |cons a _ O=>
    intro m
    rcases ar.mp m with z|z
    ·rw[z];exact{_,a.2}
    ·exact O z
  exact key g.hl Z
 obtain⟨xs,Y⟩:=Y;refine{g.sm_upd (in_l Z) _,aT g.hd (N.dl l Z),aT g.hst (N.sl l Z),aT g.hb (N.bl l Z),aT g.hq (N.ql l Z),g.hl.set N.ll (by rw[kq];exact nq) hl,aT g.hw (N.wl l Z),{vs,aT M (N.ol l Z),mQ (mR Y (fun _ z=>by cases z)) U},{rs,aT r1 (N.rl l Z),r2},aT g.hu (N.ul l Z),g.hh,g.hm,g.nd,g.fr,?_,g.wt,g.wa,g.wb};refine{kb,(yi _ _ _).trans kq,nb,nq,wb,fun p hp=>?_,nw,sw,nu,su,wo,fw}
 rcases Av hp with z|z
 ·exact wq p z
 ·rw[z];exact⟨len,W⟩
theorem Dg.counts(g:Dg CD CS bs qs H0 G L h ds w)(dr:Nat)(se:Int):Dg CD CS bs qs H0 (upd G L.st (.ins CS L.dxs (oW (.ref L.bd) (.ref L.qd) (.int dr) (.int se)))) L h ds {w with dr:=dr,se:=se}:=by
 have N:=Lay.ne g.nd;obtain⟨vs,Y,Z⟩:=g.ho;obtain⟨rs,r1,r2⟩:=g.hr;obtain⟨kb,kq,nb,nq,wb,wq,nw,sw,nu,su,wo,fw⟩:=g.ok;exact{g.sm_upd Lz _,aT g.hd N.ds,ah,aT g.hb N.sb.symm,aT g.hq N.sq.symm,g.hl.keep (L:=L) (fun a u e m=>aT e (N.sl a m).symm) (fun _ hp=>hp),aT g.hw N.sw.symm,{vs,aT Y N.so.symm,mQ (mR g.hst (fun _ z=>by cases z)) Z},{rs,aT r1 N.sr.symm,r2},aT g.hu N.su.symm,g.hh,g.hm,g.nd,g.fr,⟨kb,kq,nb,nq,wb,wq,nw,sw,nu,su,wo,fw⟩,g.wt,g.wa,g.wb}
theorem Dg.sent(g:Dg CD CS bs qs H0 G L h ds w){vs:List V}{v:V}{e:Ev}(hv:G L.od=some (.lst vs))(W:hZ G v e)(U:Wo e.a/\Wo e.b):Dg CD CS bs qs H0 (upd G L.od (.lst (vs++[v]))) L h ds {w with out:=w.out++[e]}:=by
 have N:=Lay.ne g.nd;obtain⟨O,Z,Y⟩:=g.ho;obtain⟨rs,r1,r2⟩:=g.hr;rw[hv]at Z
 cases Z;obtain⟨kb,kq,nb,nq,wb,wq,nw,sw,nu,su,wo,fw⟩:=g.ok;refine{g.sm_upd LB _,aT g.hd N.do_,aT g.hst N.so,aT g.hb N.bo,aT g.hq N.qo,g.hl.keep (L:=L) (fun a u e m=>aT e (N.ol a m).symm) (fun _ hp=>hp),aT g.hw N.wo,{_,ah,?_},{rs,aT r1 N.or.symm,r2},aT g.hu N.ou.symm,g.hh,g.hm,g.nd,g.fr,{kb,kq,nb,nq,wb,wq,nw,sw,nu,su,fun x hx=>(bM.mp hx).elim (wo x) fun z=>by rw[aA.mp z];exact U,fw},g.wt,g.wa,g.wb};exact mQ (mR hv (fun _ z=>by cases z)) (eN Y W)
theorem Dg.ended(g:Dg CD CS bs qs H0 G L h ds w):Dg CD CS bs qs H0 (upd G L.d (.ins CD L.dx (dF L.m L.hv L.st L.wd L.od true L.rd L.ud))) L h ds {w with en:=true}:=by
 have N:=Lay.ne g.nd;obtain⟨vs,Y,Z⟩:=g.ho;obtain⟨rs,r1,r2⟩:=g.hr;obtain⟨kb,kq,nb,nq,wb,wq,nw,sw,nu,su,wo,fw⟩:=g.ok;exact{g.sm_upd in_d _,ah,aT g.hst N.ds.symm,aT g.hb N.db.symm,aT g.hq N.dq.symm,g.hl.keep (L:=L) (fun a u e m=>aT e (N.dl a m).symm) (fun _ hp=>hp),aT g.hw N.dw.symm,{vs,aT Y N.do_.symm,mQ (mR g.hd (fun _ z=>by cases z)) Z},{rs,aT r1 N.dr.symm,r2},aT g.hu N.du.symm,g.hh,g.hm,g.nd,g.fr,⟨kb,kq,nb,nq,wb,wq,nw,sw,nu,su,wo,fw⟩,g.wt,g.wa,g.wb}
theorem Dg.reckoned(g:Dg CD CS bs qs H0 G L h ds w){rs:List V}{v:V}{F:Fm}(hr:G L.rd=some (.lst rs))(Z:FmI bs qs H0 v F):Dg CD CS bs qs H0 (upd G L.rd (.lst (rs++[v]))) L h ds {w with rk:=w.rk++[F]}:=by
 have N:=Lay.ne g.nd;obtain⟨vs,W,Y⟩:=g.ho;obtain⟨rs',r1,r2⟩:=g.hr;rw[hr]at r1
 cases r1;obtain⟨kb,kq,nb,nq,wb,wq,nw,sw,nu,su,wo,fw⟩:=g.ok;exact{g.sm_upd in_rd _,aT g.hd N.dr,aT g.hst N.sr,aT g.hb N.br,aT g.hq N.qr,g.hl.keep (L:=L) (fun a u e m=>aT e (N.rl a m).symm) (fun _ hp=>hp),aT g.hw N.wr,{vs,aT W N.or,mQ (mR hr (fun _ z=>by cases z)) Y},{_,ah,eN r2 Z},aT g.hu N.ru.symm,g.hh,g.hm,g.nd,g.fr,⟨kb,kq,nb,nq,wb,wq,nw,sw,nu,su,wo,fw⟩,g.wt,g.wa,g.wb}
theorem Dg.queued(g:Dg CD CS bs qs H0 G L h ds w){x:Str}(hx:x∈bs++qs):Dg CD CS bs qs H0 (upd G L.ud (.dK (wrK (nj w.qn x)))) L h ds {w with qn:=nj w.qn x}:=by
 have N:=Lay.ne g.nd;obtain⟨vs,Y,Z⟩:=g.ho;obtain⟨rs,r1,r2⟩:=g.hr;obtain⟨kb,kq,nb,nq,wb,wq,nw,sw,nu,su,wo,fw⟩:=g.ok;refine{g.sm_upd in_ud _,aT g.hd N.du,aT g.hst N.su,aT g.hb N.bu,aT g.hq N.qu,g.hl.keep (L:=L) (fun a u e m=>aT e (N.ul a m).symm) (fun _ hp=>hp),aT g.hw N.wu,{vs,aT Y N.ou,mQ (mR g.hu (fun _ z=>by cases z)) Z},{rs,aT r1 N.ru,r2},ah,g.hh,g.hm,g.nd,g.fr,{kb,kq,nb,nq,wb,wq,nw,sw,CT nu,fun y hy=>?_,wo,fw},g.wt,g.wa,g.wb}
 rcases Aw hy with z|z
 ·exact su y z
 ·rw[z];exact hx
theorem Hu{x:Str}{ps:List (Str×Int)}(m:x∈ps.map (·.1)):jN (boK ps) (Sum.inr x)=some (.int (wH ps x)):=by
 obtain⟨a,h1,_⟩:=og m;have z:=sT V.int x ps;rw[h1]at z;unfold wH;rw[h1];exact z
theorem Hv{x:Str}{l:aa}{qa:List (Str×aa)}(m:qa.lookup x=some l):jN (quK qa) (Sum.inr x)=some (.ref l):=by
 have z:=sT V.ref x qa;rw[m]at z;exact z
theorem J0{x:Str}(k:qx bs qs w)(m:x∈bs):Wo (wH w.bx x):=by
 obtain⟨a,h1,h2⟩:=og (ps:=w.bx) (x:=x) (by rw[k.kb];exact m);unfold wH;rw[h1];exact k.wb _ h2
theorem zb{x:Str}(k:qx bs qs w)(m:x∈qs):(jO w.qu x).length<=30/\∀n∈jO w.qu x,Wo n:=by
 obtain⟨a,h1,h2⟩:=og (ps:=w.qu) (x:=x) (by rw[k.kq];exact m);unfold jO;rw[h1];exact k.wq _ h2
theorem Dg.asks(g:Dg CD CS bs qs H0 G L h ds w):(Au h w).Ok bs qs:=
 {fun x m=>J0 g.ok m,fun x m=>by
  have:=(zb g.ok m).1;show (jO w.qu x).length<=1000;omega,g.wa,g.wb,g.wt}
theorem Dg.holds{K:ae}(g:Dg CD CS bs qs H0 G L h ds w){Z:aa}(Y:G Z=some (.lst [.int h.a,.int h.b])):Holds K CS bs qs G L.st Z (Au h w):=
 {{L.dxs,L.bd,L.qd,_,_,_,g.hst,JY _ _ _ _,JZ _ _ _ _,g.hb,g.hq,fun x m=>Hu (by rw[g.ok.kb];exact m),fun x m=>by
  obtain⟨l,h1,h2,_⟩:=g.hl.at_ (x:=x) (by rw[g.ok.kq];exact m);exact{l,_,Hv h1,h2,av _}},Y}
end
end My
namespace L2
open PySem
theorem uE.own{X:Cx}{E:XK}(hb:uE X E):PassesOwn (aZ X.prog X.w) X.A X.env X.xe:=by
 rw[hb.xe];exact PassesOwn.leaving
end L2
namespace My
open PySem L2
structure Mt(K:ae)(C:aa)(x qual:Str)(st:c9)(ps:List Str)(f:aa)(fd:bU):Prop where
 F:Fun K x qual st f fd
 b:Binds K fd ps []
 m:yG K C x f
structure Hw(K:ae)(mg:Str->Option af)(cf:Flt->aa):Prop where
 two:Fts K mg (cf .nought) (cf .great)
 mF:mg "Full"=some (.ref (cf .full))
 mD:mg "Dry"=some (.ref (cf .dry))
 mS:mg "Span"=some (.ref (cf .span))
 mL:mg "Late"=some (.ref (cf .late))
 xF:cR K (cf .full) oN "ValueError.__new__"=true
 xD:cR K (cf .dry) oN "ValueError.__new__"=true
 xS:cR K (cf .span) oN "ValueError.__new__"=true
 xL:cR K (cf .late) oN "ValueError.__new__"=true
def uf(cf:Flt->aa)(dg:Wk->Hp->Prop)(H0:Hp)(n:Nat)(r:Except Flt Wk)(Q:VK)(E:XK):Prop:=match r with
 |.ok Z=>∀G',dg Z G'->Z.len<=n->Q .non G'
 |.error e=>∀G',aY H0 G'->E (.ref (cf e)) none G'
theorem lS{cf:Flt->aa}{dg:Wk->Hp->Prop}{H0 G':Hp}{n:Nat}{h:Ev}{w:Wk}{f:Fm}{k:Wk->Int->Except Flt Wk}{Z Q:VK}{E:XK}(p:uf cf dg H0 n (rck h w f k) Z E)(s:aY H0 G')
  (hq:∀r,ev (Au h w) f=.ok r->uf cf dg H0 n (k {w with rk:=w.rk++[f]} r) Z E->Q (.int r) G'):yh (cf .nought) (cf .great) (ev (Au h w) f) Q E G':=by
 unfold rck at p
 cases e:ev (Au h w) f with
 |ok r=>
  rw[e]at p;exact hq r e p
 |nought=>
  rw[e]at p;exact p G' s
 |great=>
  rw[e]at p;exact p G' s
theorem BM{w:Wk}{F:Fm}:w.out.length+(w.rk++[F]).length<=w.len+4:=by
 rw[ax];show _+(_+1)<=w.out.length+w.rk.length+4;omega
theorem J1{w:Wk}{F F1 F2:Fm}{e:Ev}:(w.out++[e]).length+(w.rk++[F]++[F1]++[F2]).length<=w.len+4:=by
 rw[ax,ax,ax,ax];show _+1+(_+1+1+1)<=w.out.length+w.rk.length+4;omega
theorem J2{x:Str}{n:Int}{ps:List (Str×Int)}(m:x∈ps.map (·.1)):iY (boK ps) (Sum.inr x) (.int n)=boK (oX ps x n):=by
 obtain⟨a,h1,_⟩:=og m;exact JW V.int x n (by rw[h1];rfl)
theorem J3(ps:List (Str×Int)):(boK ps).length=ps.length:=av _
section
variable{CD CS:aa}{bs qs:List Str}{H0 G G':Hp}{L:Lay}{h:Ev}{ds:List Int}{w:Wk}
theorem Dg.few(g:Dg CD CS bs qs H0 G L h ds w):(boK w.bx).length<aB/\(wrK w.wr).length<aB:=by
 have:=g.ok.few;have:=g.ok.fw;have:=eD;rw[J3,CV];have e:=congrArg iW g.ok.kb;rw[av]at e;rw[ax]at *;omega
theorem Dg.putB(g:Dg CD CS bs qs H0 G L h ds w){x:Str}{n:Int}(m:x∈bs):tV G L.bd (.str x) (.int n) (upd G L.bd (.dK (boK (oX w.bx x n)))):=by
 have z:=tV.k (k:=Sum.inr x) (v:=.int n) g.hb g.few.1;rw[J2 (by rw[g.ok.kb];exact m)]at z;exact z
theorem Dg.putW(g:Dg CD CS bs qs H0 G L h ds w)(x:Str):tV G L.wd (.str x) (.bl true) (upd G L.wd (.dK (wrK (nj w.wr x)))):=by
 have z:=tV.k (k:=Sum.inr x) (v:=.bl true) g.hw g.few.2;rw[CQ]at z;exact z
theorem Dg.putU(g:Dg CD CS bs qs H0 G L h ds w)(x:Str):tV G L.ud (.str x) (.bl true) (upd G L.ud (.dK (wrK (nj w.qn x)))):=by
 have z:=tV.k (k:=Sum.inr x) (v:=.bl true) g.hu (by
  have:=g.ok.few2;have:=eD;rw[CV];omega)
 rw[CQ]at z;exact z
theorem Dg.getL(g:Dg CD CS bs qs H0 G L h ds w){x:Str}(m:x∈qs):∃l,L.qa.lookup x=some l/\G l=some (.lst ((jO w.qu x).map V.int))/\pI G L.qd (.str x) (some (.ref l)):=by
 obtain⟨l,h1,h2,_⟩:=g.hl.at_ (x:=x) (by rw[g.ok.kq];exact m);refine{l,h1,h2,?_};have z:=pI.k (k:=Sum.inr x) g.hq;rw[Hv h1]at z;exact z
end
section
variable{P:aK}{w:bD}{K:ae}{mg:Str->Option af}{base:cB}{f fN fR fF fW fT fD fL fQ CD CS CM:aa}{fd fdN fdR fdF fdW fdT fdD fdL fdQ:bU}{cf:Flt->aa}{bs qs:List Str}
inductive Hx(CD CS:aa)(bs qs:List Str)(vs:List V)(H:Hp)(Q:VK)(_e:XK):Prop where
 |mk(H0:Hp)(L:Lay)(h:Ev)(ds:List Int)(w:Wk)(_:vs=[.ref L.d])(_:Dg CD CS bs qs H0 H L h ds w)(_:Q (.int h.t) H):Hx CD CS bs qs vs H Q _e
def Hy(CD CS:aa)(bs qs:List Str):Sp:=fun vs H Q Z=>Hx CD CS bs qs vs H Q Z
theorem scNw:bO ["self"] ["self"] (aN ju):={}
theorem Hz(M:Mt K CD "now" "Doing.now" ju ["self"] f fd)(T:DT K mg CD):bC P w K mg base CX0 1 f fd ["self"] (Hy CD CS bs qs):=by
 refine M.F.ok scNw (fun vs H Q E h=>?_) (fun Z A outer s H vs Q E hr h=>?_)
 ·obtain⟨H0,L,e,ds,w,rfl,_⟩:=h;rfl
 obtain⟨H0,L,e,ds,w,rfl,g,q⟩:=h;obtain⟨t,k,ev,h1,h2⟩:=g.hh;refine{_,aD (bQ (bR cv (bR cv (cU (pv 0) rfl) au (fun _ _=>rfl)) au (fun _ _=>rfl))),?_};exact{_,rfl,L.d,CD,L.dx,_,_,rfl,g.hd,T.cl,T.nH,JX _ _ _ _ _ _ _ _,t,_,_,_,ev,rfl,SqT.of (g.sm _ _ h1),rfl,k,_,_,_,rfl,rfl,SqT.of (g.sm _ _ h2),rfl,q}
inductive CW(cf:Flt->aa)(CD CS:aa)(bs qs:List Str)(vs:List V)(H:Hp)(Q:VK)(E:XK):Prop where
 |mk(H0:Hp)(L:Lay)(h:Ev)(ds:List Int)(w:Wk)(v:V)(F:Fm)(_:vs=[.ref L.d,v])(_:Dg CD CS bs qs H0 H L h ds w)(_:FmI bs qs H0 v F)(_:w.len<400000)(_:∀G',Dg CD CS bs qs H0 G' L h ds {w with rk:=w.rk++[F]}->yh (cf .nought) (cf .great) (ev (Au h w) F) Q E G'):CW cf CD CS bs qs vs H Q E
def ug(cf:Flt->aa)(CD CS:aa)(bs qs:List Str):Sp:=fun vs H Q E=>CW cf CD CS bs qs vs H Q E
theorem scRk:bO ["self","formula"] ["self","formula"] (aN fu):={}
theorem gp(M:Mt K CD "reckon" "Doing.reckon" fu ["self","formula"] f fd)(V:Mt K CD "now" "Doing.now" ju ["self"] fN fdN)(Y:Df K mg "worth_of" lL ["formula","state","now","got"] fW fdW)(U:Df K mg "number_of_two" gS ["kind","first","second"] fT fdT)(DD:Df K mg "number_of_division" eC ["kind","first","second"] fD fdD)
  (DL:Df K mg "number_of_leaf" gI ["formula","state","now","got"] fL fdL) (T:DT K mg CD) (TF:Hw K mg cf) (D:MdT K mg CM CS) (B:Bl mg):bC P w K mg base (CXo P w) 18 f fd ["self","formula"] (ug cf CD CS bs qs):=by
 have GN:bC P w K mg base CX0 1 fN fdN ["self"] (Hy CD CS bs qs):=Hz V T;have GW:bC P w K mg base (CXo P w) 17 fW fdW ["formula","state","now","got"] (Hn K CS (cf .nought) (cf .great) bs qs 15):=Ly Y U DD DL TF.two D B 15;refine M.F.okX scRk (fun vs H Q E h=>?_) (fun I A outer s H vs Q E hr h=>?_)
 ·obtain⟨H0,L,e,ds,w,v,F,rfl,_⟩:=h;rfl
 obtain⟨H0,L,e,ds,w,v,F,rfl,g,O,fw,q⟩:=h;obtain⟨t,k,J,h1,h2⟩:=g.hh;have r1:cX 1 _:=hr.mono (by omega);obtain⟨rs,Z,r2⟩:=g.hr;have g0:=g.reckoned Z O;refine{_,aj (eR (pz cD dI dJ iO (cU (pv 0) rfl) (aq (pv 1) ai))) (aD (bQ (aM GW hr rfl Y.m Y.F.kp Y.b .nil (dO.passes fun _ _ _ z=>z) (aq (pv 1) (aq (cU (pv 0) rfl) (aq (kj (pv 0) T.cl V.m GN r1 V.b .nil bh) (aq (eQ (aq (bR cv (cU (pv 0) rfl) au (fun _ _=>rfl)) (aq (bR cv (cU (pv 0) rfl) au (fun _ _=>rfl)) ai))) ai))))))),?_};have rl:rs.length<aB:=by
  have z:rs.length=w.rk.length:=aO r2;have:400000<aB:=by decide
  have:w.out.length+w.rk.length<400000:=fw;omega
 refine{_,rfl,L.d,CD,L.dx,_,_,rfl,g.hd,T.cl,T.nR,dF_r _ _ _ _ _ _ _ _,.inl {rfl,_,SqL.of Z},_,rfl,L.rd,_,_,rfl,rfl,Z,rl,?_};refine{_,rfl,_,rfl,L.d,CD,L.dx,_,_,rfl,g0.hd,T.cl,T.nS,xB _ _ _ _ _ _ _ _,?_};refine{_,rfl,L.d,L.dx,_,rfl,g0.hd,pB _ _ _ _ _ _ _ _ (by decide +kernel),H0,L,e,ds,_,rfl,g0,?_};refine{_,rfl,L.d,CD,L.dx,_,_,rfl,g0.hd,T.cl,T.nH,JX _ _ _ _ _ _ _ _,t,_,_,_,J,rfl,SqT.of (g0.sm _ _ h1),rfl,?_};refine{_,rfl,L.d,CD,L.dx,_,_,rfl,g0.hd,T.cl,T.nH,JX _ _ _ _ _ _ _ _,t,_,_,_,J,rfl,SqT.of (g0.sm _ _ h1),rfl,?_};refine{lt2,fun l hl=>?_};have s2:=aH hl (.lst [.int e.a,.int e.b]);have W:=g0.same s2;exact{v,F,L.st,l,Au e w,rfl,(O.1.same W.sm),O.2,W.holds ah,W.asks,q _ W}
inductive HA(CD CS:aa)(bs qs:List Str)(vs:List V)(H:Hp)(Q:VK)(_e:XK):Prop where
 |mk(H0:Hp)(L:Lay)(h:Ev)(ds:List Int)(w:Wk)(x:Str)(_:vs=[.ref L.d,.str x])(_:Dg CD CS bs qs H0 H L h ds w)(_:x∈qs)(_:∀G' l,Dg CD CS bs qs H0 G' L h ds {w with qn:=nj w.qn x}->L.qa.lookup x=some l->G' l=some (.lst ((jO w.qu x).map V.int))->Q (.ref l) G'):HA CD CS bs qs vs H Q _e
def HB(CD CS:aa)(bs qs:List Str):Sp:=fun vs H Q Z=>HA CD CS bs qs vs H Q Z
theorem scQo:bO ["self","name"] ["self","name"] (aN eX):={}
theorem HC(M:Mt K CD "queue_of" "Doing.queue_of" eX ["self","name"] f fd)(T:DT K mg CD)(Z:MdT K mg CM CS):bC P w K mg base CX0 1 f fd ["self","name"] (HB CD CS bs qs):=by
 refine M.F.ok scQo (fun vs H Q E h=>?_) (fun W A outer s H vs Q E hr h=>?_)
 ·obtain⟨H0,L,e,ds,w,x,rfl,_⟩:=h;rfl
 obtain⟨H0,L,e,ds,w,x,rfl,g,hx,q⟩:=h;have hu:=mC hr;refine{_,aj (mH hu (cU (pv 0) rfl) (pv 1) nC rfl) (aD (bQ (qO hu (cU (cU (pv 0) rfl) rfl) (pv 1) (fun _ _=>rfl)))),?_};have g1:=g.queued (x:=x) (aX _ hx);obtain⟨l,hl,Y,dl⟩:=g1.getL hx;refine{_,rfl,L.d,CD,L.dx,_,_,rfl,g.hd,T.cl,T.nQ,dF_u _ _ _ _ _ _ _ _,_,rfl,L.ud,_,rfl,g.putU x,?_};exact{_,rfl,L.d,CD,L.dx,_,_,rfl,g1.hd,T.cl,T.nS,xB _ _ _ _ _ _ _ _,L.st,CS,L.dxs,_,_,rfl,g1.hst,Z.clS,Z.nQ,JZ _ _ _ _,_,rfl,L.qd,_,rfl,dl,q _ l g1 hl Y}
inductive CZ(CD CS:aa)(bs qs:List Str)(vs:List V)(H:Hp)(Q:VK)(_e:XK):Prop where
 |mk(H0:Hp)(L:Lay)(h:Ev)(ds:List Int)(w:Wk)(x:Str)(n:Int)(_:vs=[.ref L.d,.str x,.int n])(_:Dg CD CS bs qs H0 H L h ds w)(_:x∈bs)(_:Wo n)(_:∀G',Dg CD CS bs qs H0 G' L h ds (Hq w x n)->Q .non G'):CZ CD CS bs qs vs H Q _e
def zc(CD CS:aa)(bs qs:List Str):Sp:=fun vs H Q Z=>CZ CD CS bs qs vs H Q Z
theorem scFl:bO ["self","box","worth"] ["self","box","worth"] (aN gT):={}
theorem zd(M:Mt K CD "fill" "Doing.fill" gT ["self","box","worth"] f fd)(T:DT K mg CD)(Z:MdT K mg CM CS):bC P w K mg base CX0 1 f fd ["self","box","worth"] (zc CD CS bs qs):=by
 refine M.F.ok scFl (fun vs H Q E h=>?_) (fun Y A outer s H vs Q E hr h=>?_)
 ·obtain⟨H0,L,e,ds,w,x,n,rfl,_⟩:=h;rfl
 obtain⟨H0,L,e,ds,w,x,n,rfl,g,hx,W,q⟩:=h;have hu:=mC hr;refine{_,aj (mH hu (cU (cU (pv 0) rfl) rfl) (pv 1) (pv 2) rfl) (aD (mH hu (cU (pv 0) rfl) (pv 1) nC rfl)),?_};have g1:=g.box (x:=x) W;have V:=g1.wrote (x:=x) (gZ _ hx);refine{_,rfl,_,rfl,L.d,CD,L.dx,_,_,rfl,g.hd,T.cl,T.nS,xB _ _ _ _ _ _ _ _,L.st,CS,L.dxs,_,_,rfl,g.hst,Z.clS,Z.nB,JY _ _ _ _,_,rfl,L.bd,_,rfl,g.putB hx,?_};exact{_,rfl,L.d,CD,L.dx,_,_,rfl,g1.hd,T.cl,T.nW,Hr _ _ _ _ _ _ _ _,_,rfl,L.wd,_,rfl,g1.putW x,q _ V}
inductive C0(cf:Flt->aa)(CD CS:aa)(bs qs:List Str)(vs:List V)(H:Hp)(Q:VK)(E:XK):Prop where
 |mk(H0:Hp)(L:Lay)(h:Ev)(ds:List Int)(w:Wk)(x:Str)(v:V)(F:Fm)(_:vs=[.ref L.d,.str x,v])(_:Dg CD CS bs qs H0 H L h ds w)(_:x∈qs)(_:FmI bs qs H0 v F)(_:w.len<400000)(_:uf cf (fun w' G'=>Dg CD CS bs qs H0 G' L h ds w') H0 (w.len+4) (doD h ds (.push x F) w) Q E):C0 cf CD CS bs qs vs H Q E
def BN(cf:Flt->aa)(CD CS:aa)(bs qs:List Str):Sp:=fun vs H Q E=>C0 cf CD CS bs qs vs H Q E
theorem NM:bO ["doing","name","formula","worth","queue"] ["doing","name","formula"] (aN nU):={}
theorem sU(D:Df K mg "do_push" nU ["doing","name","formula"] f fd)(M:Mt K CD "reckon" "Doing.reckon" fu ["self","formula"] fR fdR)(I:bC P w K mg base (CXo P w) 18 fR fdR ["self","formula"] (ug cf CD CS bs qs))(W:Mt K CD "queue_of" "Doing.queue_of" eX ["self","name"] fQ fdQ)(T:DT K mg CD)(U:Hw K mg cf)(TM:MdT K mg CM CS)(B:Bl mg) :
  bC P w K mg base (CXo P w) 19 f fd ["doing","name","formula"] (BN cf CD CS bs qs):=by
 have GQ:bC P w K mg base CX0 1 fQ fdQ ["self","name"] (HB CD CS bs qs):=HC W T TM;refine D.F.okX NM (fun vs H Q E h=>?_) (fun J A outer s H vs Q E hr h=>?_)
 ·obtain⟨H0,L,e,ds,w,x,v,F,rfl,_⟩:=h;rfl
 obtain⟨H0,L,e,ds,w,x,v,F,rfl,g,hx,O,fw,p⟩:=h;have hu:=mC hr;have r1:cX 1 _:=hr.mono (by omega);refine{_,aj (bE (i:=3) NM.nd rfl (Or.inl rfl) (eT (pv 0) T.cl M.m I hr M.b .nil (dO.passes fun _ _ _ z=>z) (aq (pv 2) ai)))
  (aj (bE (i:=4) NM.nd rfl (Or.inl rfl) (eT (pv 0) T.cl W.m GQ r1 W.b .nil bh (aq (pv 1) ai)))
  (aj (cW (bN op_ge (cO ic (by rfl) B.len cb (aq (pv 4) ai)) au (bY _)) (aD (jF dO rfl rfl U.mF U.xF (aq cg ai))) cj)
  (aj (eR (pz cD dI dJ iO (pv 4) (aq (pv 3) ai)))
  (aD (mH hu (cU (pv 0) rfl) (pv 1) nC rfl))))),?_}
 simp only[doD]at p;refine{_,rfl,L.d,L.dx,_,rfl,g.hd,pB _ _ _ _ _ _ _ _ (by decide +kernel),_,rfl,H0,L,e,ds,w,v,F,rfl,g,O,fw,fun G0 g0=>?_};refine lS p g0.sm fun n en p=>?_;dsimp only at p;refine{_,rfl,L.d,L.dx,_,rfl,g0.hd,pB _ _ _ _ _ _ _ _ (by decide +kernel),_,rfl,H0,L,e,ds,_,x,rfl,g0,hx,fun G1 l g1 hl Z=>?_};refine{_,rfl,l,_,rfl,.inl (SqL.of Z),_,_,rfl,rfl,_,rfl,gH (fun c=>?_) (fun c=>?_)}
 ·have c:(30:Int)<=((((jO w.qu x).map V.int).length:Nat):Int):=kD c;rw[av]at c;rw[if_pos (by omega)]at p;exact{(by show 1<=aB;decide),p _ g1.sm}
 ·have c:¬(30:Int)<=((((jO w.qu x).map V.int).length:Nat):Int):=kQ c;rw[av]at c;rw[if_neg (by omega)]at p;have wn:Wo n:=uN g1.asks (O.1.same g1.sm) en;have gq:=zb g1.ok hx;have Y:=g1.queue (x:=x) (l:=l) (ns:=jO w.qu x++[n]) hl (by rw[ax];simp only[aR,cw];omega) (fun m hm=>by
   rcases bM.mp hm with z|z
   ·exact gq.2 m z
   ·rw[aA.mp z];exact wn)
  have g3:=Y.wrote (x:=x) (aX _ hx);have lt:((jO w.qu x).map V.int).length<aB:=by
   rw[av];have:=eD;omega
  refine{_,rfl,.inl {rfl,_,SqL.of Z},_,rfl,l,_,_,rfl,rfl,Z,lt,?_};have eq:(jO w.qu x).map V.int++[V.int n]=(jO w.qu x++[n]).map V.int:=by rw[cu];rfl
  rw[eq];exact{_,rfl,L.d,CD,L.dx,_,_,rfl,Y.hd,T.cl,T.nW,Hr _ _ _ _ _ _ _ _,_,rfl,L.wd,_,rfl,Y.putW x,p _ g3 (BM (w:=w) (F:=F))}
end
theorem HD(ds:List Int)(i:Nat)(h:i<ds.length):(ds.map V.int)[i]?=some (.int (ds.getD i 0)):=by
 rw[cC,aE h,dU,aE h];rfl
section
variable{P:aK}{w:bD}{K:ae}{mg:Str->Option af}{base:cB}{f fN fR fF CD CS CM:aa}{fd fdN fdR fdF:bU}{cf:Flt->aa}{bs qs:List Str}
inductive Ax(cf:Flt->aa)(CD CS:aa)(bs qs:List Str)(vs:List V)(H:Hp)(Q:VK)(E:XK):Prop where
 |mk(H0:Hp)(L:Lay)(h:Ev)(ds:List Int)(w:Wk)(x:Str)(v:V)(F:Fm)(_:vs=[.ref L.d,.str x,v])(_:Dg CD CS bs qs H0 H L h ds w)(_:x∈bs)(_:FmI bs qs H0 v F)(_:w.len<400000)(_:uf cf (fun w' G'=>Dg CD CS bs qs H0 G' L h ds w') H0 (w.len+4) (doD h ds (.draw x F) w) Q E):Ax cf CD CS bs qs vs H Q E
def ze(cf:Flt->aa)(CD CS:aa)(bs qs:List Str):Sp:=fun vs H Q E=>Ax cf CD CS bs qs vs H Q E
theorem J4:bO ["doing","box","formula","divisor","draws","draw"] ["doing","box","formula"] (aN nX):={}
theorem qz(D:Df K mg "do_draw" nX ["doing","box","formula"] f fd)(O:Mt K CD "reckon" "Doing.reckon" fu ["self","formula"] fR fdR)(GR:bC P w K mg base (CXo P w) 18 fR fdR ["self","formula"] (ug cf CD CS bs qs))(U:Mt K CD "fill" "Doing.fill" gT ["self","box","worth"] fF fdF)(T:DT K mg CD)(W:Hw K mg cf)(Y:MdT K mg CM CS)(B:Bl mg) :
  bC P w K mg base (CXo P w) 19 f fd ["doing","box","formula"] (ze cf CD CS bs qs):=by
 have GF:bC P w K mg base CX0 1 fF fdF ["self","box","worth"] (zc CD CS bs qs):=zd U T Y;refine D.F.okX J4 (fun vs H Q E h=>?_) (fun I A outer s H vs Q E hr h=>?_)
 ·obtain⟨H0,L,e,ds,w,x,v,F,rfl,_⟩:=h;rfl
 obtain⟨H0,L,e,ds,w,x,v,F,rfl,g,hx,J,fw,p⟩:=h;have r1:cX 1 _:=hr.mono (by omega);refine{_,aj (bE (i:=3) J4.nd rfl (Or.inl rfl) (eT (pv 0) T.cl O.m GR hr O.b .nil (dO.passes fun _ _ _ z=>z) (aq (pv 2) ai)))
  (aj (cW (bN rj (pv 3) au (bY _)) (aD (jF dO rfl rfl W.two.mN W.two.xN (aq cg ai))) cj)
  (aj (bE (i:=4) J4.nd rfl (Or.inl rfl) (bR cv (cU (pv 0) rfl) au (fun _ _=>rfl)))
  (aj (cW (A5 (vT (pv 4) (fun _=>rfl))) (aD (jF dO rfl rfl W.mD W.xD (aq cg ai))) cj)
  (aj (bE (i:=5) J4.nd rfl (Or.inl rfl) (bR dB (pv 4) (cL rH (cU (cU (pv 0) rfl) rfl) (cO ic (by rfl) B.len cb (aq (pv 4) ai))) (fun _ _=>rfl)))
  (aj (xQ (cU (pv 0) rfl) au FG)
  (aD (eR (eT (pv 0) T.cl U.m GF r1 U.b .nil bh (aq (pv 1) (aq (cL rH (pv 5) (pv 3)) ai)))))))))),?_}
 simp only[doD]at p;refine{_,rfl,L.d,L.dx,_,rfl,g.hd,pB _ _ _ _ _ _ _ _ (by decide +kernel),_,rfl,H0,L,e,ds,w,v,F,rfl,g,J,fw,fun G1 g1=>?_};refine lS p g1.sm fun n en p=>?_;refine{_,rfl,_,_,rfl,rfl,_,rfl,gH (fun c=>?_) (fun c=>?_)}
 ·rw[if_pos (kD c)]at p;exact{(by show 1<=aB;decide),p _ g1.sm}
 have c:¬n<1:=kQ c;rw[if_neg c]at p;obtain⟨t,x1,x2,x3,x4,dl,em,hm,hdl⟩:=g1.hm;refine{_,rfl,L.d,CD,L.dx,_,_,rfl,g1.hd,T.cl,T.nM,NC _ _ _ _ _ _ _ _,t,_,_,_,em,rfl,SqT.of (g1.sm _ _ hm),rfl,?_};have Z:=g1.sm _ _ hdl;refine{_,rfl,_,.inl {_,SqL.of Z,rfl},?_}
 cases hds:ds with
 |nil=>
  rw[hds]at p;refine iA ?_;exact{(by show 1<=aB;decide),p _ g1.sm}
 |cons d0 dr=>
  rw[<- hds];have ne:¬ds=[]:=by rw[hds];intro z;cases z
  have pos:0<ds.length:=by rw[hds];exact qv _
  rw[if_neg ne]at p;have nb:(!(!(ds.map V.int).isEmpty))=false:=by rw[hds];rfl
  rw[nb];refine gu ?_;have lt:w.dr%ds.length<ds.length:=Nat.mod_lt _ pos;have ix:atI (ds.map V.int) ((w.dr:Int)%(((ds.map V.int).length:Nat):Int))=some (.int (ds.getD (w.dr%ds.length) 0)):=by
   rw[av,<- Int.natCast_emod];exact jD (HD ds _ lt)
  refine{_,rfl,_,rfl,L.d,CD,L.dx,_,_,rfl,g1.hd,T.cl,T.nS,xB _ _ _ _ _ _ _ _,L.st,CS,L.dxs,_,_,rfl,g1.hst,Y.clS,Y.nD,NI _ _ _ _,_,rfl,dl,_,rfl,.inl (SqL.of Z),_,_,rfl,rfl,(by rw[av];omega),dl,_,_,_,rfl,rfl,SqL.of Z,ix,?_};refine{_,rfl,L.d,CD,L.dx,_,_,rfl,g1.hd,T.cl,T.nS,xB _ _ _ _ _ _ _ _,L.st,CS,L.dxs,_,_,rfl,g1.hst,Y.clS,Y.nD,NI _ _ _ _,_,_,rfl,rfl,L.dxs,_,g1.hst,Hs _ _ _ _,?_};rw[NG];have M:=g1.counts (w.dr+1) w.se;have wn:Wo n:=uN g1.asks (J.1.same g1.sm) en;have wm:Wo (ds.getD (w.dr%ds.length) 0%n):=by
   have a1:=lT (ds.getD (w.dr%ds.length) 0) (show n≠0 by omega);have a2:=jI (ds.getD (w.dr%ds.length) 0) (show 0<n by omega);unfold Wo at wn |-;omega
  exact{_,rfl,L.d,L.dx,_,rfl,M.hd,pB _ _ _ _ _ _ _ _ (by decide +kernel),_,rfl,_,rfl,_,rfl,_,_,rfl,rfl,(by omega),H0,L,e,ds,_,x,_,rfl,M,hx,wm,fun G' g3=>p G' g3 (BM (w:=w) (F:=F))}
inductive C5(cf:Flt->aa)(CD CS:aa)(bs qs:List Str)(vs:List V)(H:Hp)(Q:VK)(E:XK):Prop where
 |mk(H0:Hp)(L:Lay)(h:Ev)(ds:List Int)(w:Wk)(t:aa)(u u1 u2:V)(to:Int)(sg:Str)(rk:Int)(F F1 F2:Fm)(_:vs=[.ref L.d,.ref t])(_:Dg CD CS bs qs H0 H L h ds w)(_:H0 t=some (.tup [.str "send",.int to,.str sg,u,.int rk,u1,u2]))(_:FmI bs qs H0 u F)(_:FmI bs qs H0 u1 F1)(_:FmI bs qs H0 u2 F2)(_:w.len+4<400000)(_:uf cf (fun w' G'=>Dg CD CS bs qs H0 G' L h ds w') H0 (w.len+4) (doD h ds (.send to sg F rk F1 F2) w) Q E):C5 cf CD CS bs qs vs H Q E
def BO(cf:Flt->aa)(CD CS:aa)(bs qs:List Str):Sp:=fun vs H Q E=>C5 cf CD CS bs qs vs H Q E
theorem EH:bO ["doing","deed","span","first","second","when","key"] ["doing","deed"] (aN nY):={}
theorem sV(D:Df K mg "do_send" nY ["doing","deed"] f fd)(Y:Mt K CD "reckon" "Doing.reckon" fu ["self","formula"] fR fdR)(GR:bC P w K mg base (CXo P w) 18 fR fdR ["self","formula"] (ug cf CD CS bs qs))(MN:Mt K CD "now" "Doing.now" ju ["self"] fN fdN)(T:DT K mg CD)(TF:Hw K mg cf)(TM:MdT K mg CM CS)(B:Bl mg) :
  bC P w K mg base (CXo P w) 19 f fd ["doing","deed"] (BO cf CD CS bs qs):=by
 have GN:bC P w K mg base CX0 1 fN fdN ["self"] (Hy CD CS bs qs):=Hz MN T;refine D.F.okX EH (fun vs H Q E h=>?_) (fun cx A outer s H vs Q E hr h=>?_)
 ·obtain⟨H0,L,e,ds,w,t,u,u1,u2,to,sg,rk,F,F1,F2,rfl,_⟩:=h;rfl
 obtain⟨H0,L,e,ds,w,t,u,u1,u2,to,sg,rk,F,F1,F2,rfl,g,ht,hF,M,J,lo,p⟩:=h;have r1:cX 1 _:=hr.mono (by omega);refine{_,aj (bE (i:=2) EH.nd rfl (Or.inl rfl) (eT (pv 0) T.cl Y.m GR hr Y.b .nil (dO.passes fun _ _ _ z=>z) (aq (bR cv (pv 1) au (fun _ _=>rfl)) ai)))
  (aj (cW (Fp (bN rj (pv 2) au (bY _)) (A4 (bN sj (pv 2) (cL rJ au au) (bY _)))).pt (aD (jF dO rfl rfl TF.mS TF.xS (aq cg ai))) cj)
  (aj (bE (i:=3) EH.nd rfl (Or.inl rfl) (eT (pv 0) T.cl Y.m GR hr Y.b .nil (dO.passes fun _ _ _ z=>z) (aq (bR cv (pv 1) au (fun _ _=>rfl)) ai)))
  (aj (bE (i:=4) EH.nd rfl (Or.inl rfl) (eT (pv 0) T.cl Y.m GR hr Y.b .nil (dO.passes fun _ _ _ z=>z) (aq (bR cv (pv 1) au (fun _ _=>rfl)) ai)))
  (aj (bE (i:=5) EH.nd rfl (Or.inl rfl) (cL gK (kj (pv 0) T.cl MN.m GN r1 MN.b .nil bh) (pv 2)))
  (aj (cW (bN sj (pv 5) (cL rJ au au) (bY _)) (aD (jF dO rfl rfl TF.mL TF.xL (aq cg ai))) cj)
  (aj (bE (i:=6) EH.nd rfl (Or.inl rfl) (d9 (aq (pv 5) (aq (bR cv (pv 1) au (fun _ _=>rfl)) (aq (bR cv (cU (pv 0) rfl) au (fun _ _=>rfl)) (aq (cU (cU (pv 0) rfl) rfl) ai))))))
  (aj (xQ (cU (pv 0) rfl) au FG)
  (aD (eR (pz cD dI dJ iO (cU (pv 0) rfl) (aq (d9 (aq (pv 6) (aq (bR cv (pv 1) au (fun _ _=>rfl)) (aq (bR cv (pv 1) au (fun _ _=>rfl)) (aq (pv 3) (aq (pv 4) ai)))))) ai))))))))))),?_}
 simp only[doD]at p;have f0:w.len<400000:=by omega
 have f1:Wk.len {w with rk:=w.rk++[F]}<400000:=by
  show w.out.length+(w.rk++[F]).length<400000;rw[ax];have:w.out.length+w.rk.length+4<400000:=lo;show _+(_+1)<_;omega
 have f2:Wk.len {w with rk:=w.rk++[F]++[F1]}<400000:=by
  show w.out.length+(w.rk++[F]++[F1]).length<400000;rw[ax,ax];have:w.out.length+w.rk.length+4<400000:=lo;show _+(_+1+1)<_;omega
 have l1:1<=aB:=by decide
 have c6:Ef 10 6:={by decide,by decide,by decide};have de:Ef 10 12:={by decide,by decide,by decide};have W:∀{G:Hp},aY H0 G->SqT K G t [.str "send",.int to,.str sg,u,.int rk,u1,u2]:=fun {G} z=>SqT.of (z _ _ ht);refine{_,rfl,L.d,L.dx,_,rfl,g.hd,pB _ _ _ _ _ _ _ _ (by decide +kernel),_,rfl,t,_,_,_,rfl,rfl,W g.sm,rfl,H0,L,e,ds,w,u,F,rfl,g,hF,f0,fun G1 g1=>?_};refine lS p g1.sm fun n en p=>?_;refine{_,rfl,_,_,rfl,rfl,_,rfl,gH (fun c=>?_) (fun c=>?_)}
 ·rw[if_pos (.inl (kD c))]at p;exact iA {l1,p _ g1.sm}
 have c:¬n<1:=kQ c;refine{_,rfl,_,_,rfl,rfl,c6,_,_,rfl,rfl,_,rfl,gH (fun c2=>?_) (fun c2=>?_)}
 ·rw[if_pos (.inr (kD c2))]at p;exact{l1,p _ g1.sm}
 have c2:¬10^6<n:=kQ c2;rw[if_neg (fun z=>z.elim c c2)]at p;refine{_,rfl,L.d,L.dx,_,rfl,g1.hd,pB _ _ _ _ _ _ _ _ (by decide +kernel),_,rfl,t,_,_,_,rfl,rfl,W g1.sm,rfl,H0,L,e,ds,_,u1,F1,rfl,g1,M,f1,fun G2 V=>?_};refine lS p V.sm fun n1 dj p=>?_;refine{_,rfl,L.d,L.dx,_,rfl,V.hd,pB _ _ _ _ _ _ _ _ (by decide +kernel),_,rfl,t,_,_,_,rfl,rfl,W V.sm,rfl,H0,L,e,ds,_,u2,F2,rfl,V,J,f2,fun G3 Z=>?_};refine lS p Z.sm fun n2 di p=>?_;refine{_,rfl,L.d,L.dx,_,rfl,Z.hd,pB _ _ _ _ _ _ _ _ (by decide +kernel),H0,L,e,ds,_,rfl,Z,_,rfl,_,_,rfl,rfl,?_};refine{_,rfl,_,_,rfl,rfl,de,_,_,rfl,rfl,_,rfl,gH (fun c3=>?_) (fun c3=>?_)}
 ·rw[if_pos (show 10^12<e.t+n from kD c3)]at p;exact{l1,p _ Z.sm}
 rw[if_neg (show ¬10^12<e.t+n from kQ c3)]at p;obtain⟨th,kh,eh,h1,h2⟩:=Z.hh;refine{_,rfl,_,rfl,t,_,_,_,rfl,rfl,W Z.sm,rfl,_,rfl,L.d,CD,L.dx,_,_,rfl,Z.hd,T.cl,T.nH,JX _ _ _ _ _ _ _ _,th,_,_,_,eh,rfl,SqT.of (Z.sm _ _ h1),rfl,_,rfl,L.d,CD,L.dx,_,_,rfl,Z.hd,T.cl,T.nS,xB _ _ _ _ _ _ _ _,L.st,CS,L.dxs,_,_,rfl,Z.hst,TM.clS,TM.nS,NJ _ _ _ _,(by show 4<=aB;decide),fun U hk=>?_};have s4:=aH hk (.tup [.int (e.t+n),.int rk,.int e.to,.int w.se]);have O:=Z.same s4;refine{_,rfl,L.d,CD,L.dx,_,_,rfl,O.hd,T.cl,T.nS,xB _ _ _ _ _ _ _ _,L.st,CS,L.dxs,_,_,rfl,O.hst,TM.clS,TM.nS,NJ _ _ _ _,_,_,rfl,rfl,L.dxs,_,O.hst,Hs _ _ _ _,?_};rw[NH];have I:=O.counts w.dr (w.se+1);have dc:∀{G:Hp} {o o':HO},G U=some (.tup [.int (e.t+n),.int rk,.int e.to,.int w.se])->G L.st=some o'->(∀xs,o'≠.tup xs)->upd G L.st o U=some (.tup [.int (e.t+n),.int rk,.int e.to,.int w.se]):=fun h1 h2 h3=>aT h1 (o6 h1 h2 (fun z=>h3 _ z.symm));have k5:=dc (o:=.ins CS L.dxs (oW (.ref L.bd) (.ref L.qd) (.int w.dr) (.int (w.se+1)))) (ah:upd G3 U _ U=_) O.hst (fun xs z=>by cases z);obtain⟨vs,o1,o2⟩:=I.ho;refine{_,rfl,L.d,CD,L.dx,_,_,rfl,I.hd,T.cl,T.nO,dF_o _ _ _ _ _ _ _ _,.inl {rfl,_,SqL.of o1},?_};refine{_,rfl,_,rfl,t,_,_,_,rfl,rfl,W I.sm,rfl,_,rfl,t,_,_,_,rfl,rfl,W I.sm,rfl,_,rfl,_,rfl,lt5,fun ev da=>?_};have s6:=aH da (.tup [.ref U,.int to,.str sg,.int n1,.int n2]);have g6:=I.same s6;have ol:vs.length<aB:=by
  have:=aO o2;have z:vs.length=w.out.length:=this;have:400000<aB:=by decide
  have:w.out.length+w.rk.length+4<400000:=lo;omega
 refine{L.od,vs,_,rfl,rfl,s6 _ _ o1,ol,?_};have g7:=g6.sent (v:=.ref ev) (e:={e.t+n,rk,e.to,w.se,to,sg,n1,n2}) (s6 _ _ o1) {ev,U,rfl,ah,s6 _ _ k5} {uN g1.asks (M.1.same g1.sm) dj,uN V.asks (J.1.same V.sm) di};exact p _ g7 (J1 (w:=w) (F:=F) (F1:=F1) (F2:=F2))
end
mutual
def Dd.size:Dd->Nat
 |.pull _ _ o=>o.size+1
 |.ife _ t e=>t.size+e.size+1
 |_=>1
def Ds.size:Ds->Nat
 |.nil=>0
 |.cons d r=>d.size+r.size
end
theorem uf.le{cf:Flt->aa}{dg:Wk->Hp->Prop}{H0:Hp}{m n:Nat}{r:Except Flt Wk}{Q:VK}{E:XK}(p:uf cf dg H0 n r Q E)(h:m<=n):uf cf dg H0 m r Q E:=by
 cases r with
 |ok w=>exact fun G g l=>p G g (dA l h)
 |error e=>exact p
section
variable{P:aK}{w:bD}{K:ae}{mg:Str->Option af}{base:cB}{f fR fF fP fD fU fW fS f1 fQ CD CS CM:aa}{fd fdR fdF fdP fdD fdU fdW fdS fd1 fdQ:bU}{cf:Flt->aa}{bs qs:List Str}
inductive HE(cf:Flt->aa)(CD CS:aa)(bs qs:List Str)(n:Nat)(vs:List V)(H:Hp)(Q:VK)(E:XK):Prop where
 |mk(H0:Hp)(L:Lay)(h:Ev)(ds:List Int)(w:Wk)(v:V)(D:Ds)(_:vs=[.ref L.d,v])(_:Dg CD CS bs qs H0 H L h ds w)(_:mP H0 (fJ bs qs H0 D) v)(_:D.deep<n)(_:w.len+4*D.size<400000)(_:uf cf (fun w' G'=>Dg CD CS bs qs H0 G' L h ds w') H0 (w.len+4*D.size) (doS h ds D w) Q E):HE cf CD CS bs qs n vs H Q E
def wI(cf:Flt->aa)(CD CS:aa)(bs qs:List Str)(n:Nat):Sp:=fun vs H Q E=>HE cf CD CS bs qs n vs H Q E
inductive LC(cf:Flt->aa)(CD CS:aa)(bs qs:List Str)(n:Nat)(vs:List V)(H:Hp)(Q:VK)(E:XK):Prop where
 |mk(H0:Hp)(L:Lay)(h:Ev)(ds:List Int)(w:Wk)(v:V)(D:Dd)(_:vs=[.ref L.d,v])(_:Dg CD CS bs qs H0 H L h ds w)(_:eK bs qs H0 D v)(_:D.deep<n)(_:w.len+4*D.size<400000)(_:uf cf (fun w' G'=>Dg CD CS bs qs H0 G' L h ds w') H0 (w.len+4*D.size) (doD h ds D w) Q E):LC cf CD CS bs qs n vs H Q E
def spDd(cf:Flt->aa)(CD CS:aa)(bs qs:List Str)(n:Nat):Sp:=fun vs H Q E=>LC cf CD CS bs qs n vs H Q E
inductive C6(cf:Flt->aa)(CD CS:aa)(bs qs:List Str)(n:Nat)(vs:List V)(H:Hp)(Q:VK)(E:XK):Prop where
 |mk(H0:Hp)(L:Lay)(h:Ev)(ds:List Int)(w:Wk)(q x:Str)(v:V)(D:Ds)(_:vs=[.ref L.d,.str q,.str x,v])(_:Dg CD CS bs qs H0 H L h ds w)(_:q∈qs)(_:x∈bs)(_:mP H0 (fJ bs qs H0 D) v)(_:D.deep<n)(_:w.len+4*D.size<400000)(_:uf cf (fun w' G'=>Dg CD CS bs qs H0 G' L h ds w') H0 (w.len+4*D.size) (doD h ds (.pull q x D) w) Q E):C6 cf CD CS bs qs n vs H Q E
def HF(cf:Flt->aa)(CD CS:aa)(bs qs:List Str)(n:Nat):Sp:=fun vs H Q E=>C6 cf CD CS bs qs n vs H Q E
theorem scPl:bO ["doing","name","box","otherwise","queue"] ["doing","name","box","otherwise"] (aN nV):={}
theorem J6{n k:Nat}(hk:1<=k)(D:Df K mg "do_pull" nV ["doing","name","box","otherwise"] f fd)(W:Df K mg "do_deeds" iI ["doing","deeds"] fD fdD)(GD:bC P w K mg base (CXo P w) k fD fdD ["doing","deeds"] (wI cf CD CS bs qs n))(U:Mt K CD "fill" "Doing.fill" gT ["self","box","worth"] fF fdF)(M:Mt K CD "queue_of" "Doing.queue_of" eX ["self","name"] fQ fdQ)(T:DT K mg CD)(J:MdT K mg CM CS) :
  bC P w K mg base (CXo P w) (k+1) f fd ["doing","name","box","otherwise"] (HF cf CD CS bs qs n):=by
 have GF:bC P w K mg base CX0 1 fF fdF ["self","box","worth"] (zc CD CS bs qs):=zd U T J;have GQ:bC P w K mg base CX0 1 fQ fdQ ["self","name"] (HB CD CS bs qs):=HC M T J;refine D.F.okX scPl (fun vs H Q E h=>?_) (fun bz A outer s H vs Q E hr h=>?_)
 ·obtain⟨H0,L,e,ds,w,q,x,v,D,rfl,_⟩:=h;rfl
 obtain⟨H0,L,e,ds,w,q,x,v,D,rfl,g,hq,hx,hv,hn,ho,p⟩:=h;have r1:cX 1 _:=hr.mono hk;have hu:=mC hr;refine{_,aj (bE (i:=4) scPl.nd rfl (Or.inl rfl) (eT (pv 0) T.cl M.m GQ r1 M.b .nil bh (aq (pv 1) ai)))
  (aD (cW (vT (pv 4) (fun _=>rfl))
   (aj (eR (eT (pv 0) T.cl U.m GF r1 U.b .nil bh (aq (pv 2) (aq (pz cD zR zS FT (pv 4) (aq au ai)) ai))))
   (aD (mH hu (cU (pv 0) rfl) (pv 1) nC rfl)))
   (aD (eR (aM GD hr rfl W.m W.F.kp W.b .nil (dO.passes fun _ _ _ z=>z) (aq (pv 0) (aq (pv 3) ai))))))),?_}
 simp only[doD]at p;refine{_,rfl,L.d,L.dx,_,rfl,g.hd,pB _ _ _ _ _ _ _ _ (by decide +kernel),_,rfl,H0,L,e,ds,w,q,rfl,g,hq,fun G0 l g0 hl Y=>?_};refine{_,rfl,_,.inl {_,SqL.of Y,rfl},?_};have Z:(jO w.qu q).length<=30/\∀n∈jO w.qu q,Wo n:=zb g.ok hq
 cases e1:jO w.qu q with
 |nil=>
  rw[e1]at p;refine gu ?_;exact{_,rfl,_,rfl,H0,L,e,ds,_,v,D,rfl,g0,hv,hn,ho,p}
 |cons m ms=>
  rw[e1]at p Y Z;refine iA ?_;have g1:=g0.queue (x:=q) (l:=l) (ns:=ms) hl (by have:=Z.1;rw[aR]at this;omega) (fun z I=>Z.2 z (ag _ I));refine{_,rfl,L.d,L.dx,_,rfl,g0.hd,pB _ _ _ _ _ _ _ _ (by decide +kernel),_,rfl,_,rfl,.inl {rfl,_,SqL.of Y},l,_,_,0,.int m,rfl,rfl,Y,(by decide),(by decide),(yK (n:=((m::ms).map V.int).length) (i:=0) (j:=0) (by unfold ixN;rw[if_pos (by decide),if_pos (by rw[av,aR];omega)];rfl)).1,rfl,?_};refine{H0,L,e,ds,_,x,m,rfl,g1,hx,Z.2 m aC,fun G2 O=>?_};have g3:=O.wrote (x:=q) (aX _ hq);exact{_,rfl,L.d,CD,L.dx,_,_,rfl,O.hd,T.cl,T.nW,Hr _ _ _ _ _ _ _ _,_,rfl,L.wd,_,rfl,O.putW q,p _ g3 (wJ _ _)}
theorem scDd:bO ["doing","deed","kind"] ["doing","deed"] (aN nJ):={}
theorem Ka{n k:Nat}(hk:19<=k)(D:Df K mg "do_deed" nJ ["doing","deed"] f fd)(DD:Df K mg "do_deeds" iI ["doing","deeds"] fD fdD)(GD:bC P w K mg base (CXo P w) k fD fdD ["doing","deeds"] (wI cf CD CS bs qs n))
  (MF:Mt K CD "fill" "Doing.fill" gT ["self","box","worth"] fF fdF) (I:Mt K CD "reckon" "Doing.reckon" fu ["self","formula"] fR fdR) (GR:bC P w K mg base (CXo P w) 18 fR fdR ["self","formula"] (ug cf CD CS bs qs))
  (DP:Df K mg "do_pull" nV ["doing","name","box","otherwise"] fP fdP) (DU:Df K mg "do_push" nU ["doing","name","formula"] fU fdU) (GU:bC P w K mg base (CXo P w) 19 fU fdU ["doing","name","formula"] (BN cf CD CS bs qs))
  (DW:Df K mg "do_draw" nX ["doing","box","formula"] fW fdW) (GW:bC P w K mg base (CXo P w) 19 fW fdW ["doing","box","formula"] (ze cf CD CS bs qs)) (DS:Df K mg "do_send" nY ["doing","deed"] fS fdS) (GS:bC P w K mg base (CXo P w) 19 fS fdS ["doing","deed"] (BO cf CD CS bs qs)) (MQ:Mt K CD "queue_of" "Doing.queue_of" eX ["self","name"] fQ fdQ) (T:DT K mg CD) (TM:MdT K mg CM CS) :
  bC P w K mg base (CXo P w) (k+2) f fd ["doing","deed"] (spDd cf CD CS bs qs (n+1)):=by
 have GF:bC P w K mg base CX0 1 fF fdF ["self","box","worth"] (zc CD CS bs qs):=zd MF T TM;have GP:bC P w K mg base (CXo P w) (k+1) fP fdP ["doing","name","box","otherwise"] (HF cf CD CS bs qs n):=J6 (by omega) DP DD GD MF MQ T TM;refine D.F.okX scDd (fun vs H Q E h=>?_) (fun cs A outer s H vs Q E hr h=>?_)
 ·obtain⟨H0,L,e,ds,w,v,D,rfl,_⟩:=h;rfl
 obtain⟨H0,L,e,ds,w,v,D,rfl,g,hv,hn,ho,p⟩:=h;have r1:cX 1 _:=hr.mono (by omega);have O:cX 18 _:=hr.mono (by omega);have W:cX 19 _:=hr.mono (by omega);have rk:cX k _:=hr.mono (by omega);refine{_,aj (bE (i:=2) scDd.nd rfl (Or.inl rfl) (bR cv (pv 1) au (fun _ _=>rfl)))
  (aD (cW (bN fh (pv 2) cg (bY _)) (aD (eR (eT (pv 0) T.cl MF.m GF r1 MF.b .nil bh (aq (bR cv (pv 1) au (fun _ _=>rfl)) (aq (eT (pv 0) T.cl I.m GR O I.b .nil (dO.passes fun _ _ _ z=>z) (aq (bR cv (pv 1) au (fun _ _=>rfl)) ai)) ai)))))
  (aD (cW (bN fh (pv 2) cg (bY _)) (aD (eR (aM GU W rfl DU.m DU.F.kp DU.b .nil (dO.passes fun _ _ _ z=>z) (aq (pv 0) (aq (bR cv (pv 1) au (fun _ _=>rfl)) (aq (bR cv (pv 1) au (fun _ _=>rfl)) ai))))))
  (aD (cW (bN fh (pv 2) cg (bY _)) (aD (eR (aM GP hr rfl DP.m DP.F.kp DP.b .nil (dO.passes fun _ _ _ z=>z) (aq (pv 0) (aq (bR cv (pv 1) au (fun _ _=>rfl)) (aq (bR cv (pv 1) au (fun _ _=>rfl)) (aq (bR cv (pv 1) au (fun _ _=>rfl)) ai)))))))
  (aD (cW (bN fh (pv 2) cg (bY _)) (aD (eR (aM GW W rfl DW.m DW.F.kp DW.b .nil (dO.passes fun _ _ _ z=>z) (aq (pv 0) (aq (bR cv (pv 1) au (fun _ _=>rfl)) (aq (bR cv (pv 1) au (fun _ _=>rfl)) ai))))))
  (aD (cW (bN fh (pv 2) cg (bY _)) (aD (eR (aM GS W rfl DS.m DS.F.kp DS.b .nil (dO.passes fun _ _ _ z=>z) (aq (pv 0) (aq (pv 1) ai)))))
  (aD (cW (bN fh (pv 2) cg (bY _)) (aD (eR (aM GD rk rfl DD.m DD.F.kp DD.b .nil (dO.passes fun _ _ _ z=>z) (aq (pv 0) (aq (rZ (bN K9 (eT (pv 0) T.cl I.m GR O I.b .nil (dO.passes fun _ _ _ z=>z) (aq (bR cv (pv 1) au (fun _ _=>rfl)) ai)) au (bY _)) (bR cv (pv 1) au (fun _ _=>rfl)) (bR cv (pv 1) au (fun _ _=>rfl))) ai)))))
  (aD (cW (bN fh (pv 2) cg (bY _)) (aD (eP (pv 0) nC rfl)) cj)))))))))))))),?_}
 have no:∀{m:Str},BL.contains m=false->(dF L.m L.hv L.st L.wd L.od w.en L.rd L.ud).lookup m=none:=fun z=>pB _ _ _ _ _ _ _ _ z;have nx:∀{a b:Str} {p1 p2:Prop},(a==b)=false->p2->(if decide (V.str a=V.str b)=true then p1 else p2):=fun z q=>oa (ve (sne z)) (gu q);have U:∀{a:Str} {p1 p2:Prop},p1->(if decide (V.str a=V.str a)=true then p1 else p2):=fun q=>oa (EE _) (iA q);have fw:w.len<400000:=by omega
 cases D with
 |put x F=>
  obtain⟨t,u,rfl,ht,hx,Y⟩:=(by simpa only[eK] using hv);have Z:=SqT.of (K:=K) (g.sm _ _ ht);simp only[doD]at p;refine{_,rfl,t,_,_,_,rfl,rfl,Z,rfl,_,rfl,rfl,_,rfl,U ?_};refine{_,rfl,L.d,L.dx,_,rfl,g.hd,no (by decide +kernel),_,rfl,t,_,_,_,rfl,rfl,Z,rfl,?_};refine{_,rfl,L.d,L.dx,_,rfl,g.hd,no (by decide +kernel),_,rfl,t,_,_,_,rfl,rfl,Z,rfl,H0,L,e,ds,w,u,F,rfl,g,Y,fw,fun G1 g1=>?_};refine lS p g1.sm fun m em p=>?_;exact{H0,L,e,ds,_,x,m,rfl,g1,hx,uN g1.asks (Y.1.same g1.sm) em,fun G' g'=>p G' g' (BM (w:=w) (F:=F))}
 |push x F=>
  obtain⟨t,u,rfl,ht,hx,Y⟩:=(by simpa only[eK] using hv);have Z:=SqT.of (K:=K) (g.sm _ _ ht);refine{_,rfl,t,_,_,_,rfl,rfl,Z,rfl,_,rfl,rfl,_,rfl,nx (by decide +kernel) ?_};refine{_,rfl,rfl,_,rfl,U ?_};exact{_,rfl,_,rfl,t,_,_,_,rfl,rfl,Z,rfl,_,rfl,t,_,_,_,rfl,rfl,Z,rfl,H0,L,e,ds,w,x,u,F,rfl,g,hx,Y,fw,p}
 |pull q x o=>
  obtain⟨t,u,rfl,ht,hq,hx,hl⟩:=(by simpa only[eK] using hv);have Z:=SqT.of (K:=K) (g.sm _ _ ht);simp only[Dd.deep]at hn;simp only[Dd.size]at ho p;refine{_,rfl,t,_,_,_,rfl,rfl,Z,rfl,_,rfl,rfl,_,rfl,nx (by decide +kernel) ?_};refine{_,rfl,rfl,_,rfl,nx (by decide +kernel) ?_};refine{_,rfl,rfl,_,rfl,U ?_};exact{_,rfl,_,rfl,t,_,_,_,rfl,rfl,Z,rfl,_,rfl,t,_,_,_,rfl,rfl,Z,rfl,_,rfl,t,_,_,_,rfl,rfl,Z,rfl,H0,L,e,ds,w,q,x,u,o,rfl,g,hq,hx,hl,(by omega),(by omega),p.le (by omega)}
 |draw x F=>
  obtain⟨t,u,rfl,ht,hx,Y⟩:=(by simpa only[eK] using hv);have Z:=SqT.of (K:=K) (g.sm _ _ ht);refine{_,rfl,t,_,_,_,rfl,rfl,Z,rfl,_,rfl,rfl,_,rfl,nx (by decide +kernel) ?_};refine{_,rfl,rfl,_,rfl,nx (by decide +kernel) ?_};refine{_,rfl,rfl,_,rfl,nx (by decide +kernel) ?_};refine{_,rfl,rfl,_,rfl,U ?_};exact{_,rfl,_,rfl,t,_,_,_,rfl,rfl,Z,rfl,_,rfl,t,_,_,_,rfl,rfl,Z,rfl,H0,L,e,ds,w,x,u,F,rfl,g,hx,Y,fw,p}
 |send to sg F rk F1 F2=>
  obtain⟨t,u,u1,u2,rfl,ht,Y,da,cx⟩:=(by simpa only[eK] using hv);have Z:=SqT.of (K:=K) (g.sm _ _ ht);simp only[Dd.size]at ho p;refine{_,rfl,t,_,_,_,rfl,rfl,Z,rfl,_,rfl,rfl,_,rfl,nx (by decide +kernel) ?_};refine{_,rfl,rfl,_,rfl,nx (by decide +kernel) ?_};refine{_,rfl,rfl,_,rfl,nx (by decide +kernel) ?_};refine{_,rfl,rfl,_,rfl,nx (by decide +kernel) ?_};refine{_,rfl,rfl,_,rfl,U ?_};exact{_,rfl,_,rfl,H0,L,e,ds,w,t,u,u1,u2,to,sg,rk,F,F1,F2,rfl,g,ht,Y,da,cx,(by omega),p}
 |ife F x y=>
  obtain⟨t,u,u1,u2,rfl,ht,Y,hX,hY⟩:=(by simpa only[eK] using hv);simp only[Dd.deep]at hn;simp only[Dd.size]at ho p;simp only[doD]at p;have Z:=SqT.of (K:=K) (g.sm _ _ ht);refine{_,rfl,t,_,_,_,rfl,rfl,Z,rfl,_,rfl,rfl,_,rfl,nx (by decide +kernel) ?_};refine{_,rfl,rfl,_,rfl,nx (by decide +kernel) ?_};refine{_,rfl,rfl,_,rfl,nx (by decide +kernel) ?_};refine{_,rfl,rfl,_,rfl,nx (by decide +kernel) ?_};refine{_,rfl,rfl,_,rfl,nx (by decide +kernel) ?_};refine{_,rfl,rfl,_,rfl,U ?_};refine{_,rfl,_,rfl,L.d,L.dx,_,rfl,g.hd,no (by decide +kernel),_,rfl,t,_,_,_,rfl,rfl,Z,rfl,H0,L,e,ds,w,u,F,rfl,g,Y,fw,fun G1 g1=>?_};have M:=SqT.of (K:=K) (g1.sm _ _ ht);have J:Wk.len {w with rk:=w.rk++[F]}=w.len+1:=by
   show w.out.length+(w.rk++[F]).length=w.out.length+w.rk.length+1;rw[ax];rfl
  refine lS p g1.sm fun m em p=>?_;refine{rfl,_,rfl,?_}
  by_cases c:m=0
  ·subst c;rw[if_pos rfl]at p;refine oa (b:=false) rfl (gu ?_);exact{_,rfl,t,_,_,_,rfl,rfl,M,rfl,H0,L,e,ds,_,u2,y,rfl,g1,hY,(by omega),(by rw[J];omega),p.le (by rw[J];omega)}
  ·rw[if_neg c]at p;refine oa (b:=true) (by rw[decide_eq_false (fun z=>c (za z))];rfl) (iA ?_);exact{_,rfl,t,_,_,_,rfl,rfl,M,rfl,H0,L,e,ds,_,u1,x,rfl,g1,hX,(by omega),(by rw[J];omega),p.le (by rw[J];omega)}
 |fin=>
  obtain⟨t,rfl,ht⟩:=(by simpa only[eK] using hv);have Z:=SqT.of (K:=K) (g.sm _ _ ht);simp only[doD]at p;refine{_,rfl,t,_,_,_,rfl,rfl,Z,rfl,_,rfl,rfl,_,rfl,nx (by decide +kernel) ?_};refine{_,rfl,rfl,_,rfl,nx (by decide +kernel) ?_};refine{_,rfl,rfl,_,rfl,nx (by decide +kernel) ?_};refine{_,rfl,rfl,_,rfl,nx (by decide +kernel) ?_};refine{_,rfl,rfl,_,rfl,nx (by decide +kernel) ?_};refine{_,rfl,rfl,_,rfl,nx (by decide +kernel) ?_};refine{_,rfl,rfl,_,rfl,U ?_};refine{_,rfl,L.d,CD,L.dx,_,rfl,g.hd,T.cl,T.nE,NK _ _ _ _ _ _ _ _,?_};rw[NF];exact p _ g.ended (wJ _ _)
theorem scDs:bO ["doing","deeds","deed"] ["doing","deeds"] (aN iI):={}
theorem EI{n k:Nat}(D:Df K mg "do_deeds" iI ["doing","deeds"] f fd)(I:Df K mg "do_deed" nJ ["doing","deed"] f1 fd1)(G1:bC P w K mg base (CXo P w) k f1 fd1 ["doing","deed"] (spDd cf CD CS bs qs n)) :
  bC P w K mg base (CXo P w) (k+1) f fd ["doing","deeds"] (wI cf CD CS bs qs n):=by
 refine D.F.okX scDs (fun vs H Q E h=>?_) (fun bG A outer s H vs Q E hr h=>?_)
 ·obtain⟨H0,L,e,ds,w,v,D,rfl,_⟩:=h;rfl
 obtain⟨H0,L,e,ds,w,v,D,rfl,g,⟨l,vs,rfl,hl,bH,hD⟩,hn,ho,p⟩:=h;refine{_,aD (jA dO.own rfl (iM (pv 1)) (dS (i:=2) scDs.nd rfl (Or.inl rfl)) (aD (eR (aM G1 hr rfl I.m I.F.kp I.b .nil (dO.passes fun _ _ _ z=>z) (aq (pv 0) (aq (pv 2) ai)))))),?_};refine{_,rfl,l,rfl,{_,SqL.of (g.sm _ _ hl)},jB (K:=K) (a:=l) (xs:=vs) (fun i σ G=>∃(W:Ds) (Y:Wk) (u:Option V),σ=[some (.ref L.d),some (.ref l),u]/\Dg CD CS bs qs H0 G L e ds Y/\fJ bs qs H0 W (vs.drop i)/\W.deep<n/\Y.len+4*W.size<=w.len+4*D.size /\
  uf cf (fun Y G'=>Dg CD CS bs qs H0 G' L e ds Y) H0 (w.len+4*D.size) (doS e ds W Y) Q E) {D,w,none,rfl,g,hD,hn,ay _,p} ?_ ?_ ?_}
 ·rintro i σ G _ ⟨W,Y,u,rfl,g',_⟩;exact SqL.of (g'.sm _ _ hl)
 ·rintro i x σ G hi ⟨W,Y,u,rfl,g',Z,M,O,U⟩;have lt:i<vs.length:=(aF.mp hi).1;have hx:vs[i]=x:=(aF.mp hi).2;rw[zf lt,hx]at Z
  cases W with
  |nil=>
   simp only[fJ]at Z
   cases Z
  |cons d r=>
   obtain⟨v0,vr,ev,hd,J⟩:=(by simpa only[fJ] using Z)
   cases ev;simp only[Ds.deep]at M;simp only[Ds.size]at O;refine{_,rfl,_,rfl,H0,L,e,ds,Y,x,d,rfl,g',hd,(by omega),(by omega),?_};simp only[doS]at U
   cases ed:doD e ds d Y with
   |error er=>
    rw[ed]at U;exact U
   |ok w2=>
    rw[ed]at U;intro G2 g2 l2;exact{r,w2,_,rfl,g2,J,(by omega),(by omega),U}
 ·rintro σ G ⟨W,Y,u,rfl,g',Z,M,O,U⟩;rw[IX]at Z
  cases W with
  |nil=>
   simp only[doS]at U;exact U G g' (by omega)
  |cons d r=>
   obtain⟨v0,vr,ev,_⟩:=(by simpa only[fJ] using Z)
   cases ev
theorem oh(D:Df K mg "do_deeds" iI ["doing","deeds"] f fd)(Z:Df K mg "do_deed" nJ ["doing","deed"] f1 fd1)
  (z:Mt K CD "fill" "Doing.fill" gT ["self","box","worth"] fF fdF) (g:Mt K CD "reckon" "Doing.reckon" fu ["self","formula"] fR fdR) (Y:bC P w K mg base (CXo P w) 18 fR fdR ["self","formula"] (ug cf CD CS bs qs))
  (O:Df K mg "do_pull" nV ["doing","name","box","otherwise"] fP fdP) (I:Df K mg "do_push" nU ["doing","name","formula"] fU fdU) (GU:bC P w K mg base (CXo P w) 19 fU fdU ["doing","name","formula"] (BN cf CD CS bs qs))
  (U:Df K mg "do_draw" nX ["doing","box","formula"] fW fdW) (M:bC P w K mg base (CXo P w) 19 fW fdW ["doing","box","formula"] (ze cf CD CS bs qs)) (J:Df K mg "do_send" nY ["doing","deed"] fS fdS) (GS:bC P w K mg base (CXo P w) 19 fS fdS ["doing","deed"] (BO cf CD CS bs qs)) (MQ:Mt K CD "queue_of" "Doing.queue_of" eX ["self","name"] fQ fdQ) (T:DT K mg CD) (W:MdT K mg CM CS) :
  ∀n:Nat,bC P w K mg base (CXo P w) (20+3*n) f fd ["doing","deeds"] (wI cf CD CS bs qs n)
 |0=>by
  have V:∀vs H Q E,¬wI cf CD CS bs qs 0 vs H Q E:=fun vs H Q E h=>by
   obtain⟨H0,L,e,ds,w,v,D,_,_,_,hn,_⟩:=h;omega
  exact{fun vs H Q E h=>absurd h (V vs H Q E),fun A outer s H args us vs Q E _ _ _ _ h=>absurd h (V vs H Q E)}
 |n+1=>EI D Z (Ka (n:=n) (k:=20+3*n) (by omega) Z D (oh D Z z g Y O I GU U M J GS MQ T W n) z g Y O I GU U M J GS MQ T W)
end
end My
namespace L2
open PySem PySem.Spec PyProof.Rows
theorem BP{X:Cx}:mB X (.type "dict") (fun xs H Q=>∃d kvs,xs=[V.ref d]/\H d=some (.dK kvs)/\∀p,H p=none->Q (.ref p) (upd H p (.dK kvs))):=by
 intro pins s σ H xs us Q I r h;obtain⟨d,kvs,rfl,hd,q⟩:=h;obtain⟨u,rfl,ru⟩:=vals1 r
 cases ru;obtain⟨Z,n1,U,k1,W⟩:=(show eO X.prog X.w H s.heap d (.dK kvs) from I.hok d _ hd);refine kt_call_dict (knd:=gb X.prog X.w) n1 W (by rw[<- k1.length];exact Z) fun h' Y sb=>?_;have kk:∀b o,s.heap.get? b=some o->h'.get? b=some o:=fun b o e=>(sb.2 b (aQ (aP e))).trans (aI _ e);exact{.ref s.heap.objs.size,_,I.laid (a:=s.heap.objs.size) (o:=.dK kvs) (t':=s.toks) kk (ay _) (yP Z (beq_eq_false_iff_ne.mpr (gm (aQ I.big))) k1 Y),rfl,q _ (I.hok.fresh (ay _))}
end L2
namespace My
open PySem L2
def jP(CS:aa)(H:Hp)(st:aa)(bx:List (Str×Int))(qu:List (Str×List Int))(dr:Nat)(se:Int):Prop:=
 ∃dx bd qd qa,H st=some (.ins CS dx (oW (.ref bd) (.ref qd) (.int dr) (.int se)))/\H bd=some (.dK (boK bx))/\H qd=some (.dK (quK qa))/\gE H qa qu
theorem gE.same{G G':Hp}(s:aY G G'){qa:List (Str×aa)}{qu:List (Str×List Int)}(q:gE G qa qu):gE G' qa qu:=
 gE.keep (L:={0,0,0,0,0,0,0,0,0,0,.non,.non,qa}) (fun a u e _=>s _ _ e) (fun _ h=>h) q
theorem jP.same{CS:aa}{H H':Hp}(s:aY H H'){st:aa}{bx:List (Str×Int)}{qu:List (Str×List Int)}{dr:Nat}{se:Int}(h:jP CS H st bx qu dr se):jP CS H' st bx qu dr se:=by
 obtain⟨dx,bd,qd,qa,h1,h2,Y,Z⟩:=h;exact{dx,bd,qd,qa,s _ _ h1,s _ _ h2,s _ _ Y,Z.same s}
structure HG(CS:aa)(H G:Hp)(st:aa)(bx:List (Str×Int))(qu:List (Str×List Int))(dr:Nat)(se:Int)(dxs bd qd:aa)(qa:List (Str×aa)):Prop where
 sm:aY H G
 hst:G st=some (.ins CS dxs (oW (.ref bd) (.ref qd) (.int dr) (.int se)))
 hb:G bd=some (.dK (boK bx))
 hq:G qd=some (.dK (quK qa))
 hl:gE G qa qu
 nd:(st::bd::qd::qa.map (·.2)).Nodup
 fr:∀a∈st::bd::qd::qa.map (·.2),H a=none
inductive C7(CS:aa)(vs:List V)(H:Hp)(Q:VK)(_e:XK):Prop where
 |mk(st:aa)(bx:List (Str×Int))(qu:List (Str×List Int))(dr:Nat)(se:Int)(_:vs=[.ref st])(_:jP CS H st bx qu dr se)(_:(qu.map (·.1)).Nodup)(_:qu.length<100)(_:∀(G:Hp) (st' dxs bd qd:aa) (qa:List (Str×aa)),HG CS H G st' bx qu dr se dxs bd qd qa->Q (.ref st') G):C7 CS vs H Q _e
def BQ(CS:aa):Sp:=fun vs H Q Z=>C7 CS vs H Q Z
theorem Kb{qa:List (Str×aa)}{x:Str}{l:aa}(h:x∉qa.map (·.1)):iY (quK qa) (Sum.inr x) (.ref l)=quK (qa++[(x,l)]):=by
 have e:qa.lookup x=none:=by
  cases z:qa.lookup x with
  |none=>rfl
  |some a=>exact absurd (cH.mpr {_,qy z,rfl}) h
 unfold iY;have v:jN (quK qa) (Sum.inr x)=none:=by
  have z:=sT V.ref x qa;rw[e]at z;exact z
 rw[ko,v];show (if false=true then _ else _)=_;rw[if_neg (by decide)];unfold quK;rw[cu];rfl
theorem C8(qa:List (Str×aa)):(quK qa).length=qa.length:=av _
theorem gE.len{G:Hp}{qa:List (Str×aa)}{qu:List (Str×List Int)}(q:gE G qa qu):qa.length=qu.length:=aO q
theorem gE.nm{G:Hp}:∀{qa:List (Str×aa)} {qu:List (Str×List Int)},gE G qa qu->qa.map (·.1)=qu.map (·.1)
 |_,_,.nil=>rfl
 |_::_,_::_,.cons a b=>by rw[cm,cm,a.1,gE.nm b]
theorem gE.nth{G:Hp}:∀{qa:List (Str×aa)} {qu:List (Str×List Int)} {i:Nat} {p:Str×aa},gE G qa qu->qa[i]?=some p->∃q,qu[i]?=some q/\p.1=q.1/\G p.2=some (.lst (q.2.map V.int))
 |_,_,i,p,.nil,h=>by simp at h
 |_::_,_::_,0,p,.cons a b,h=>by
  simp at h;subst h;exact{_,rfl,a.1,a.2}
 |_::_,_::_,i+1,p,.cons a b,h=>by
  obtain⟨q,h1,h2⟩:=gE.nth (i:=i) (p:=p) b (by simpa using h);exact{q,by simpa using h1,h2}
section
variable{P:aK}{w:bD}{K:ae}{mg:Str->Option af}{base:cB}{f fI CD CS CM:aa}{fd fdI:bU}
theorem Kc:bO ["self","queues","name","worths"] ["self"] (aN iR):={}
theorem kU(F:Fun K "copy" "State.copy" iR f fd)(MS:Mk K CS fI)(FI:Fun K "__init__" "State.__init__" jH fI fdI)(bI:Binds K fdI ["self","boxes","queues","drawn","sent"] [])(B:Bl mg)(T:MdT K mg CM CS) :
  bC P w K mg base CX0 3 f fd ["self"] (BQ CS):=by
 have GI:bC P w K mg base CX0 1 fI fdI ["self","boxes","queues","drawn","sent"] (Nx CS):=Lu FI T;refine F.ok Kc (fun vs H Q E h=>?_) (fun dj A outer s H vs Q E hr h=>?_)
 ·obtain⟨st,bx,qu,dr,se,rfl,_⟩:=h;rfl
 obtain⟨st,bx,qu,dr,se,rfl,⟨dx,bd,qd,qa,hst,hb,hq,hl⟩,ej,lq,k⟩:=h;have hu:=mC hr;refine{_,aj (bE (i:=1) Kc.nd rfl (Or.inl rfl) sJ)
  (aj (JJ (jA cY rfl (Gn (cU (pv 0) rfl)) (vQ rfl (je (dS (i:=2) Kc.nd rfl (Or.inl rfl)) (je (dS (i:=3) Kc.nd rfl (Or.inl rfl)) sh))) (aD (mH hu (pv 1) (pv 2) (hV oK (by rfl) B.list boot_list (aq (pv 3) ai)) rfl))))
  (aD (bQ (iN MS GI hr (by rfl) T.mS bI .nil bh (aq (hV BP (by rfl) B.dict boot_dict (aq (cU (pv 0) rfl) ai)) (aq (pv 1) (aq (cU (pv 0) rfl) (aq (cU (pv 0) rfl) ai)))))))),?_}
 intro d hd;have s1:aY H (upd H d (.dK [])):=aH hd _;have nf:∀(ob:Obj) (u:HO),H qd≠some (.frz ob u):=fun ob u z=>by
  rw[hq]at z
  cases z
 have M:d≠qd:=(aw hq hd).symm;have dc:(qa.map (·.1)).Nodup:=by
  rw[hl.nm];exact ej
 refine{_,rfl,st,CS,dx,_,_,rfl,s1 _ _ hst,T.clS,T.nQ,JZ _ _ _ _,qd,_,rfl,s1 _ _ hq,nf,fun od=>?_};refine Ey (d:=qd) (od:=od) (kvs:=quK qa) (fun i σ G=>∃(v2 v3:Option V) (Z:List (Str×aa)),σ=[some (.ref st),some (.ref d),v2,v3]/\G qd=some (.frz od (.dK (quK qa)))/\(∀b o,H b=some o->b≠qd->G b=some o)/\G d=some (.dK (quK Z)) /\
  gE G Z (qu.take i)/\(Z.map (·.2)).Nodup/\∀a∈Z.map (·.2),H a=none/\a≠d) {none,none,[],rfl,ah,fun b o e n=>?_,?_,?_,iX,fun a h=>by cases h} ?_ ?_ ?_
 ·rw[aL n];exact s1 _ _ e
 ·rw[aL M];exact ah
 ·rw[jS];exact .nil
 ·rintro i σ G _ ⟨_,_,_,_,h1,_⟩;exact h1
 ·rintro i kv t σ G hi ⟨v2,v3,Z,rfl,g1,g2,g3,J,g5,g6⟩ ht;obtain⟨p,hp,rfl⟩:∃p,qa[i]?=some p/\kv=((Sum.inr p.1:Key),V.ref p.2):=by
   unfold quK at hi;rw[cC]at hi
   cases z:qa[i]? with
   |none=>
    rw[z]at hi
    cases hi
   |some p=>
    rw[z]at hi
    cases hi;exact⟨p,rfl,rfl⟩
  obtain⟨q,dV,ed,ea⟩:=hl.nth hp;have W:=aH ht (.tup [kV (Sum.inr p.1),.ref p.2]);have dt:p.2≠qd:=o6 ea hq (by intro z;cases z);refine{t,_,rfl,SqT.of ah,rfl,_,_,rfl,_,_,rfl,rfl,?_};refine{_,rfl,p.2,_,rfl,.inl (SqL.of (W _ _ (g2 _ _ ea dt))),fun l ef=>?_};have sl:=aH ef (.lst (q.2.map V.int));have dn:=sl _ _ (W _ _ g3);have de:i<qu.length:=(aF.mp dV).1;have tk:(qu.take (i+1))=qu.take i++[q]:=by
   rw[fZ,dV];rfl
  have dG:p.1∉Z.map (·.1):=by
   rw[J.nm,ed];intro z;have ee:((qu.take (i+1)).map (·.1)).Nodup:=by
    rw[NO];exact ej.sublist (uA _ _)
   rw[tk,cu]at ee;exact (iK.mp ee).2.2 _ z q.1 (by simp) rfl
  have ei:(quK Z).length<aB:=by
   have z:=J.len;rw[cM]at z;rw[C8];have:=eD;omega
  have dp:=tV.k (k:=Sum.inr p.1) (v:=.ref l) dn ei;rw[Kb dG]at dp;refine{_,rfl,_,rfl,d,_,rfl,dp,?_};have Y:G l=none:=by
   cases z:G l with
   |none=>rfl
   |some o=>
    have:=W _ _ z;rw[ef]at this
    cases this
  have dL:H l=none:=by
   cases z:H l with
   |none=>rfl
   |some o=>
    by_cases c:l=qd
    ·rw[c,g1]at Y
     cases Y
    ·rw[g2 _ _ z c]at Y
     cases Y
  have ec:l≠d:=fun z=>by rw[z,g3]at Y;cases Y
  refine{_,_,Z++[(p.1,l)],rfl,?_,fun b o e n=>?_,ah,?_,?_,fun a ha=>?_}
  ·rw[aL M.symm];exact sl _ _ (W _ _ g1)
  ·rw[aL (aw e hd)];exact sl _ _ (W _ _ (g2 _ _ e n))
  ·rw[tk];have old:gE (upd (upd (upd G t (.tup [kV (Sum.inr p.1),.ref p.2])) l (.lst (q.2.map V.int))) d (.dK (quK (Z++[(p.1,l)])))) Z (qu.take i):=
    gE.keep (L:={0,0,0,0,0,0,0,0,0,0,.non,.non,Z}) (fun a u e m=>aT (sl _ _ (W _ _ e)) (g6 a m).2) (fun _ h=>h) J
   exact eN old {ed,aT ah ec}
  ·rw[cu];refine iK.mpr {g5,by simp,fun a ha b hb=>?_};rw[aA.mp hb];intro z;obtain⟨pp,I,e⟩:=cH.mp ha;obtain⟨j,hj⟩:=dH I;obtain⟨_,_,_,y⟩:=J.nth hj;rw[e,z,Y]at y
   cases y
  ·rw[cu]at ha
   rcases bM.mp ha with z|z
   ·exact g6 a z
   ·rw[aA.mp z];exact⟨dL,ec⟩
 ·rintro σ G ⟨v2,v3,Z,rfl,g1,g2,g3,J,g5,g6⟩;rw[C8,hl.len,eg]at J;refine{qd,od,_,g1,nf,?_};have O:aY H (upd G qd (.dK (quK qa))):=fun b o e=>by
   by_cases c:b=qd
   ·rw[c,ah];rw[c,hq]at e;exact e
   ·rw[aL c];exact g2 _ _ e c
  have U:upd G qd (.dK (quK qa)) d=some (.dK (quK Z)):=aT g3 M;have D:gE (upd G qd (.dK (quK qa))) Z qu:=
   gE.keep (L:={0,0,0,0,0,0,0,0,0,0,.non,.non,Z}) (fun a u e m=>aT e (aw hq (g6 a m).1).symm) (fun _ h=>h) J
  generalize upd G qd (.dK (quK qa))=G2 at O U D;refine{_,rfl,st,CS,dx,_,_,rfl,O _ _ hst,T.clS,T.nB,JY _ _ _ _,bd,_,rfl,O _ _ hb,fun e he=>?_};have s3:=aH he (.dK (boK bx));refine{_,rfl,_,rfl,st,CS,dx,_,_,rfl,s3 _ _ (O _ _ hst),T.clS,T.nD,NI _ _ _ _,_,rfl,st,CS,dx,_,_,rfl,s3 _ _ (O _ _ hst),T.clS,T.nS,NJ _ _ _ _,?_};intro x eb nx dz di;refine{x,eb,_,_,_,_,rfl,ah,fun H' hx bt=>{rfl,?_}};have sm:aY (upd G2 e (.dK (boK bx))) H':=fun b o e2=>by
   have cx:b≠x:=aw e2 nx;refine bt b o ?_ cx;rw[aL cx,aL (aw e2 dz)];exact e2
  have g:=s3.trans sm;have fresh:∀{a:aa},upd G2 e (.dK (boK bx)) a=none->H a=none:=fun {a} z=>by
   cases y:H a with
   |none=>rfl
   |some o=>
    rw[s3 _ _ (O _ _ y)]at z
    cases z
  have dv:H e=none:=by
   cases y:H e with
   |none=>rfl
   |some o=>
    rw[O _ _ y]at he
    cases he
  refine k H' x eb e d Z {O.trans g,hx,sm _ _ ah,g _ _ U,D.same g,?_,?_}
  ·have ek:x≠e:=(aw (ah:upd G2 e (.dK (boK bx)) e=_) nx).symm;have eh:x≠d:=(aw (s3 _ _ U) nx).symm;have el:e≠d:=(aw U he).symm;have ql:∀a∈Z.map (·.2),∃o,G2 a=some o:=fun a ha=>by
    obtain⟨pp,I,e⟩:=cH.mp ha;obtain⟨j,hj⟩:=dH I;obtain⟨_,_,_,y⟩:=D.nth hj;rw[<- e];exact{_,y}
   refine cK.mpr {fun z=>?_,cK.mpr {fun z=>?_,cK.mpr {fun z=>(g6 d z).2 rfl,g5}}}
   ·rcases ar.mp z with z|z
    ·exact ek z
    ·rcases ar.mp z with z|z
     ·exact eh z
     ·obtain⟨o,y⟩:=ql x z;exact (aw (s3 _ _ y) nx) rfl
   ·rcases ar.mp z with z|z
    ·exact el z
    ·obtain⟨o,y⟩:=ql e z;exact (aw y he) rfl
  ·intro a ha
   rcases ar.mp ha with z|z
   ·rw[z];exact fresh nx
   ·rcases ar.mp z with z|z
    ·rw[z];exact dv
    ·rcases ar.mp z with z|z
     ·rw[z];exact hd
     ·exact (g6 a z).1
end
theorem Dg.base{CD CS:aa}{bs qs:List Str}{H0 Z G G':Hp}{L:Lay}{h:Ev}{ds:List Int}{w:Wk}(g:Dg CD CS bs qs H0 G L h ds w)(s:aY G G')(Y:aY H0 Z)(W:aY Z G')(fr:∀a∈L.all,Z a=none):Dg CD CS bs qs Z G' L h ds w:=by
 obtain⟨t,x1,V,M,O,dl,U,hm,hdl⟩:=g.hm;have g':=g.same s;obtain⟨rs,r1,r2⟩:=g'.hr;exact{W,g'.hd,g'.hst,g'.hb,g'.hq,g'.hl,g'.hw,g'.ho,{rs,r1,Paired.mono (fun _ _ z=>z.same Y) r2},g'.hu,g.hh.same Y,{t,x1,V,M,O,dl,U,Y _ _ hm,Y _ _ hdl},g.nd,fr,g.ok,g.wt,g.wa,g.wb}
theorem gE.there{G:Hp}{qa:List (Str×aa)}{qu:List (Str×List Int)}(q:gE G qa qu){a:aa}(h:a∈qa.map (·.2)):∃xs,G a=some (.lst xs):=by
 obtain⟨W,Z,e⟩:=cH.mp h;obtain⟨j,Y⟩:=dH Z;obtain⟨_,_,_,y⟩:=q.nth Y;rw[<- e];exact{_,y}
theorem Dg.there{CD CS:aa}{bs qs:List Str}{H0 G:Hp}{L:Lay}{h:Ev}{ds:List Int}{w:Wk}(g:Dg CD CS bs qs H0 G L h ds w):∀a∈L.all,∃o,G a=some o:=fun a ha=>by
 obtain⟨vs,Z,_⟩:=g.ho;obtain⟨rs,r1,_⟩:=g.hr;unfold Lay.all at ha;simp only[ar]at ha
 rcases ha with rfl|rfl|rfl|rfl|rfl|rfl|rfl|rfl|ha
 ·exact{_,g.hd}
 ·exact{_,g.hst}
 ·exact{_,g.hb}
 ·exact{_,g.hq}
 ·exact{_,g.hw}
 ·exact{_,Z}
 ·exact{_,r1}
 ·exact{_,g.hu}
 ·obtain⟨xs,e⟩:=g.hl.there ha;exact{_,e}
def EJ(bs qs:List Str)(H:Hp)(v:V)(p:Str×Ds):Prop:=∃t u,v=.ref t/\H t=some (.tup [.str p.1,u])/\mP H (fJ bs qs H p.2) u
def jJ(hs:List (Str×Ds))(sg:Str):Ds:=(hs.lookup sg).getD .nil
theorem EJ.same{bs qs:List Str}{H H':Hp}(s:aY H H'){v:V}{p:Str×Ds}(h:EJ bs qs H v p):EJ bs qs H' v p:=by
 obtain⟨t,u,e,h1,h2⟩:=h;exact{t,u,e,s _ _ h1,h2.same s (fJ.same s p.2)}
section
variable{P:aK}{w:bD}{K:ae}{mg:Str->Option af}{base:cB}{f fC fI CD CS CM:aa}{fd fdC fdI:bU}{bs qs:List Str}
theorem gy{G:Hp}{a b:aa}{o:HO}(h:upd G a o b=none):b≠a/\G b=none:=by
 by_cases c:b=a
 ·rw[c,ah]at h
  cases h
 ·rw[aL c]at h;exact⟨c,h⟩
theorem Ay{G:Hp}{d wd od rd ud a:aa}{i3 U M J O o:HO}(W:G wd=none)(V:G od=none)(Z:G rd=none)(Y:G ud=none)(e:G a=some o)(n:a≠d):upd (upd (upd (upd (upd (upd (upd (upd (upd G d i3) wd (.dK [])) d U) od (.lst [])) d M) rd (.lst [])) d J) ud (.dK [])) d O a=some o:=
 aT (aT (aT (aT (aT (aT (aT (aT (aT e n) (aw e W)) n) (aw e V)) n) (aw e Z)) n) (aw e Y)) n
inductive LD(CD CS:aa)(bs qs:List Str)(vs:List V)(H:Hp)(Q:VK)(_e:XK):Prop where
 |mk(H0:Hp)(d dx st:aa)(m hv:V)(h:Ev)(ds:List Int)(bx:List (Str×Int))(qu:List (Str×List Int))(dr:Nat)(se:Int)(_:vs=[.ref d,m,.ref st,hv])(_:H d=some (.ins CD dx []))(_:H0 d=none)(_:aY H0 H)(_:jP CS H0 st bx qu dr se)(_:hZ H0 hv h)(_:(∃t x1 x2 x3 x4 dl,m=.ref t/\H0 t=some (.tup [x1,x2,x3,.ref dl,x4])/\H0 dl=some (.lst (ds.map V.int))))(_:qx bs qs ⟨bx,qu,dr,se,[],[],false,[],[]⟩)(_:Wo h.t)(_:Wo h.a)(_:Wo h.b)(_:∀(G:Hp) (L:Lay),L.d=d->L.m=m->Dg CD CS bs qs H0 G L h ds ⟨bx,qu,dr,se,[],[],false,[],[]⟩->Q .non G):LD CD CS bs qs vs H Q _e
def NP(CD CS:aa)(bs qs:List Str):Sp:=fun vs H Q Z=>LD CD CS bs qs vs H Q Z
theorem scDI:bO ["self","machine","state","happening"] ["self","machine","state","happening"] (aN oR):={}
theorem Az(F:Fun K "__init__" "Doing.__init__" oR f fd)(MC:Mt K CS "copy" "State.copy" iR ["self"] fC fdC)(GC:bC P w K mg base CX0 3 fC fdC ["self"] (BQ CS))(T:DT K mg CD)(TM:MdT K mg CM CS):bC P w K mg base CX0 4 f fd ["self","machine","state","happening"] (NP CD CS bs qs):=by
 refine F.ok scDI (fun vs H Q E h=>?_) (fun dc A outer s H vs Q E hr h=>?_)
 ·obtain⟨H0,d,dx,st,m,hv,h,ds,bx,qu,dr,se,rfl,_⟩:=h;rfl
 obtain⟨H0,d,dx,st,m,hv,h,ds,bx,qu,dr,se,rfl,hd,dV,s0,hS,hE,hM,ok,wt,wa,wb,k⟩:=h;refine{_,aj (eP (pv 0) (pv 1) rfl) (aj (eP (pv 0) (pv 3) rfl) (aj (eP (pv 0) (kj (pv 2) TM.clS MC.m GC hr MC.b .nil bh) rfl) (aj (eP (pv 0) sJ rfl) (aj (eP (pv 0) (eQ ai) rfl) (aj (eP (pv 0) nC rfl) (aj (eP (pv 0) (eQ ai) rfl) (aD (eP (pv 0) sJ rfl)))))))),?_};have l1:=hJ "machine" m [];have l2:=hJ "happening" hv (cJ "machine" m []);simp only[cw]at l1;refine{_,rfl,_,rfl,d,CD,dx,[],rfl,hd,T.cl,T.nM,(by show 0<1000;decide),?_};refine{_,rfl,_,rfl,d,CD,dx,_,rfl,ah,T.cl,T.nH,(by omega),?_};rw[B7];have sd:∀(o:HO),aY H0 (upd H d o):=fun o b u e=>by
  rw[aL (aw e dV)];exact s0 _ _ e
 obtain⟨dn,da,cp,ci,dv,_⟩:=id hS;refine{_,rfl,st,dn,_,rfl,sd _ _ _ dv,st_no _ _ _ _ (by decide +kernel),st,bx,qu,dr,se,rfl,hS.same (sd _),(by rw[ok.kq];exact ok.nq),?_,fun G V dxs bd qd qa N=>?_}
 ·have e:=congrArg iW ok.kq;rw[av]at e;have:=ok.fw;rw[ax]at this;show qu.length<100;have e:qu.length=qs.length:=e;omega
 have gd:G d=some (.ins CD dx (cJ "happening" hv (cJ "machine" m []))):=N.sm _ _ ah;have l3:=hJ "state" (.ref V) (cJ "happening" hv (cJ "machine" m []));have l4:=fun wd=>hJ "written" (.ref wd) (cJ "state" (.ref V) (cJ "happening" hv (cJ "machine" m [])));have l5:=fun od wd=>hJ "outgoing" (.ref od) (cJ "written" (.ref wd) (cJ "state" (.ref V) (cJ "happening" hv (cJ "machine" m []))));refine{_,rfl,d,CD,dx,_,rfl,gd,T.cl,T.nS,(by omega),?_};have l6:=fun od wd=>hJ "ends" (.bl false) (cJ "outgoing" (.ref od) (cJ "written" (.ref wd) (cJ "state" (.ref V) (cJ "happening" hv (cJ "machine" m [])))));have l7:=fun rd od wd=>hJ "reckoned" (.ref rd) (cJ "ends" (.bl false) (cJ "outgoing" (.ref od) (cJ "written" (.ref wd) (cJ "state" (.ref V) (cJ "happening" hv (cJ "machine" m []))))));intro wd O;obtain⟨M,O⟩:=gy O;refine{_,rfl,d,CD,dx,_,rfl,(by rw[aL M.symm];exact ah),T.cl,T.nW,(by omega),bV _,fun od W=>?_};obtain⟨J,W⟩:=gy W;obtain⟨ea,W⟩:=gy W;obtain⟨_,W⟩:=gy W;have de:=l4 wd;have cx:=l5 od wd;have cs:=l6 od wd;refine{_,rfl,d,CD,dx,_,rfl,(by rw[aL J.symm];exact ah),T.cl,T.nO,(by omega),?_};refine{_,rfl,d,CD,dx,_,rfl,ah,T.cl,T.nE,(by omega),bV _,fun rd Y=>?_};rw[B7]at Y |-;obtain⟨I,Y⟩:=gy Y;obtain⟨dz,Y⟩:=gy Y;obtain⟨_,Y⟩:=gy Y;obtain⟨dj,Y⟩:=gy Y;obtain⟨_,Y⟩:=gy Y;have cr:=l7 rd od wd;refine{_,rfl,d,CD,dx,_,rfl,(by rw[aL I.symm];exact ah),T.cl,T.nR,(by omega),?_};intro ud Z;obtain⟨dL,Z⟩:=gy Z;obtain⟨dt,Z⟩:=gy Z;obtain⟨_,Z⟩:=gy Z;obtain⟨dG,Z⟩:=gy Z;obtain⟨_,Z⟩:=gy Z;obtain⟨di,Z⟩:=gy Z;obtain⟨_,Z⟩:=gy Z;refine{_,rfl,d,CD,dx,_,rfl,(by rw[aL dL.symm];exact ah),T.cl,T.nQ,(by omega),?_};rw[ND];have ee:∀{a:aa},G a=none->H0 a=none:=fun {a} z=>by
  cases y:H0 a with
  |none=>rfl
  |some o=>
   rw[N.sm _ _ (sd _ _ _ y)]at z
   cases z
 have U:∀a∈V::bd::qd::qa.map (·.2),H0 a=none/\a≠d:=fun a ha=>by
  have z:=N.fr a ha;have n:a≠d:=fun y=>by
   rw[y,ah]at z
   cases z
  rw[aL n]at z;refine{?_,n}
  cases y:H0 a with
  |none=>rfl
  |some o=>
   rw[s0 _ _ y]at z
   cases z
 have g:∀a∈V::bd::qd::qa.map (·.2),∃o,G a=some o:=fun a ha=>by
  simp only[ar]at ha
  rcases ha with rfl|rfl|rfl|ha
  ·exact{_,N.hst}
  ·exact{_,N.hb}
  ·exact{_,N.hq}
  ·obtain⟨xs,e⟩:=N.hl.there ha;exact{_,e}
 have i1:∀{b:aa} {xs:List aa},b∈b::xs:=aC;have i2:∀{a b:aa} {xs:List aa},b∈xs->b∈a::xs:=fun z=>ag _ z;refine k _ ⟨d,dx,V,dxs,bd,qd,wd,od,rd,ud,m,hv,qa⟩ rfl rfl {fun b o e=>Ay O W Y Z (N.sm _ _ (sd _ _ _ e)) (aw e dV),ah,Ay O W Y Z N.hst (U _ i1).2,Ay O W Y Z N.hb (U _ (i2 i1)).2,Ay O W Y Z N.hq (U _ (i2 (i2 i1))).2,?_,?_,{[],?_,.nil},{[],?_,.nil},?_,hE,hM,?_,?_,ok,wt,wa,wb}
 ·exact gE.keep (L:={0,0,0,0,0,0,0,0,0,0,.non,.non,qa}) (fun a u e m=>Ay O W Y Z e (U a (i2 (i2 (i2 m)))).2) (fun _ h=>h) N.hl
 ·show upd _ d _ wd=some (.dK []);rw[aL M,aL di.symm,aL M,aL dj.symm,aL M,aL ea.symm,aL M,ah]
 ·show upd _ d _ od=some (.lst []);rw[aL J,aL dG.symm,aL J,aL dz.symm,aL J,ah]
 ·show upd _ d _ rd=some (.lst []);rw[aL I,aL dt.symm,aL I,ah]
 ·show upd _ d _ ud=some (.dK []);rw[aL dL,ah]
 ·have nd:=N.nd;have hn:∀{a:aa} {xs:List aa},a∉xs->xs.Nodup->(a::xs).Nodup:=fun p q=>cK.mpr ⟨p,q⟩;obtain⟨n1,nd⟩:=cK.mp nd;obtain⟨n2,nd⟩:=cK.mp nd;obtain⟨n3,nd⟩:=cK.mp nd;simp only[ar,not_or]at n1 n2 n3;have D:∀a∈V::bd::qd::qa.map (·.2),a≠wd:=fun a ha z=>by
   obtain⟨o,y⟩:=g a ha;rw[z,O]at y
   cases y
  have ed:∀a∈V::bd::qd::qa.map (·.2),a≠od:=fun a ha z=>by
   obtain⟨o,y⟩:=g a ha;rw[z,W]at y
   cases y
  have eb:∀a∈V::bd::qd::qa.map (·.2),a≠rd:=fun a ha z=>by
   obtain⟨o,y⟩:=g a ha;rw[z,Y]at y
   cases y
  have ec:∀a∈V::bd::qd::qa.map (·.2),a≠ud:=fun a ha z=>by
   obtain⟨o,y⟩:=g a ha;rw[z,Z]at y
   cases y
  show (d::V::bd::qd::wd::od::rd::ud::qa.map (·.2)).Nodup;refine hn ?_ (hn ?_ (hn ?_ (hn ?_ (hn ?_ (hn ?_ (hn ?_ (hn ?_ nd)))))))
  ·simp only[ar,not_or];exact{fun z=>(U _ i1).2 z.symm,fun z=>(U _ (i2 i1)).2 z.symm,fun z=>(U _ (i2 (i2 i1))).2 z.symm,M.symm,J.symm,I.symm,dL.symm,fun z=>(U d (i2 (i2 (i2 z)))).2 rfl}
  ·simp only[ar,not_or];exact{n1.1,n1.2.1,D _ i1,ed _ i1,eb _ i1,ec _ i1,n1.2.2}
  ·simp only[ar,not_or];exact{n2.1,D _ (i2 i1),ed _ (i2 i1),eb _ (i2 i1),ec _ (i2 i1),n2.2}
  ·simp only[ar,not_or];exact{D _ (i2 (i2 i1)),ed _ (i2 (i2 i1)),eb _ (i2 (i2 i1)),ec _ (i2 (i2 i1)),n3}
  ·simp only[ar,not_or];exact{ea.symm,dj.symm,di.symm,fun z=>D wd (i2 (i2 (i2 z))) rfl}
  ·simp only[ar,not_or];exact{dz.symm,dG.symm,fun z=>ed od (i2 (i2 (i2 z))) rfl}
  ·simp only[ar,not_or];exact{dt.symm,fun z=>eb rd (i2 (i2 (i2 z))) rfl}
  ·exact fun z=>ec ud (i2 (i2 (i2 z))) rfl
 ·intro a ha;unfold Lay.all at ha;simp only[ar]at ha
  rcases ha with rfl|rfl|rfl|rfl|rfl|rfl|rfl|rfl|ha
  ·exact dV
  ·exact (U _ i1).1
  ·exact (U _ (i2 i1)).1
  ·exact (U _ (i2 (i2 i1))).1
  ·exact ee O
  ·exact ee W
  ·exact ee Y
  ·exact ee Z
  ·exact (U a (i2 (i2 (i2 ha)))).1
inductive LF(bs qs:List Str)(vs:List V)(H:Hp)(Q:VK)(_e:XK):Prop where
 |mk(H0:Hp)(t hl:aa)(x0 x1 x2 x3:V)(hv:List V)(hs:List (Str×Ds))(sg:Str)(_:vs=[.ref t,.str sg])(_:aY H0 H)(_:H0 t=some (.tup [x0,x1,x2,x3,.ref hl]))(_:H0 hl=some (.lst hv))(_:aJ (EJ bs qs H0) hv hs)(_:(∀u,mP H0 (fJ bs qs H0 (jJ hs sg)) u->Q u H))(_:∀l,H l=none->jJ hs sg=.nil->Q (.ref l) (upd H l (.lst []))):LF bs qs vs H Q _e
def NQ(bs qs:List Str):Sp:=fun vs H Q Z=>LF bs qs vs H Q Z
theorem scBy:bO ["machine","sign","heard"] ["machine","sign"] (aN ie):={}
theorem oj{Z Y:Type}{R:Z->Y->Prop}:∀{xs:List Z} {ys:List Y} {i:Nat} {x:Z},aJ R xs ys->xs[i]?=some x->∃y,ys[i]?=some y/\R x y
 |_,_,i,x,.nil,h=>by simp at h
 |_,_,0,x,.cons a b,h=>by
  simp at h;subst h;exact{_,rfl,a}
 |_,_,i+1,x,.cons a b,h=>by
  obtain⟨y,h1,h2⟩:=oj (i:=i) (x:=x) b (by simpa using h);exact{y,by simpa using h1,h2}
theorem ok_by(D:Df K mg "deeds_by_sign" ie ["machine","sign"] f fd):bC P w K mg base CX0 1 f fd ["machine","sign"] (NQ bs qs):=by
 refine D.F.ok scBy (fun vs H Q E h=>?_) (fun V A outer s H vs Q E hr h=>?_)
 ·obtain⟨H0,t,hl,I,x1,U,J,hv,hs,sg,rfl,_⟩:=h;rfl
 obtain⟨H0,t,hl,I,x1,U,J,hv,hs,sg,rfl,sm,ht,hh,W,k1,k2⟩:=h;have ht:=sm _ _ ht;have hh:=sm _ _ hh;refine{_,aj (jA cY rfl (iM (bR cv (pv 0) au (fun _ _=>rfl))) (dS (i:=2) scBy.nd rfl (Or.inl rfl)) (aD (cW (bN fh (bR cv (pv 2) au (fun _ _=>rfl)) (pv 1) (bY _)) (aD (bQ (bR cv (pv 2) au (fun _ _=>rfl)))) cj)))
  (aD (bQ (eQ ai))),?_}
 refine{_,rfl,t,_,_,_,rfl,rfl,SqT.of ht,rfl,hl,rfl,{_,SqL.of hh},jB (K:=K) (a:=hl) (xs:=hv) (fun i σ G=>G=H/\(∃u,σ=[some (.ref t),some (.str sg),u])/\jJ hs sg=jJ (hs.drop i) sg) {rfl,{_,rfl},by rw[rA]} ?_ ?_ ?_}
 ·rintro i σ G _ ⟨rfl,_⟩;exact SqL.of hh
 ·rintro i x σ G hi ⟨rfl,⟨u,rfl⟩,e⟩;obtain⟨p,hp,t',O,rfl,Z,Y⟩:=oj W hi;have Z:=sm _ _ Z;have lt:i<hs.length:=(aF.mp hp).1;have hx:hs[i]=p:=(aF.mp hp).2;rw[zf lt,hx]at e;obtain⟨pn,pd⟩:=p;refine{_,rfl,t',_,_,_,rfl,rfl,SqT.of Z,rfl,_,rfl,rfl,_,rfl,?_}
  by_cases c:pn=sg
  ·subst c;refine oa (EE _) (iA ?_);refine{_,rfl,t',_,_,_,rfl,rfl,SqT.of Z,rfl,k1 O ?_};rw[e];unfold jJ;rw[bT];exact Y
  ·refine oa (ve c) (gu ?_);refine{rfl,{_,rfl},?_};rw[e];unfold jJ;rw[cG,beq_eq_false_iff_ne.mpr (fun z=>c z.symm)]
 ·rintro σ G ⟨rfl,⟨u,rfl⟩,e⟩;have M:=aO W;rw[M,IX]at e;exact{bV _,fun l Y=>k2 l Y e}
end
structure wK(bs qs:List Str)(ds:List Int)(hs:List (Str×Ds))(H:Hp)(m:V):Prop where
 ex:∃(t bl ql dl hl:aa) (nm:V) (vb hv:List V),m=.ref t/\H t=some (.tup [nm,.ref bl,.ref ql,.ref dl,.ref hl])/\H bl=some (.lst vb)/\aJ (fun v (x:Str)=>∃a n,v=.ref a/\H a=some (.tup [.str x,n])) vb bs/\H ql=some (.lst (qs.map V.str))/\H dl=some (.lst (ds.map V.int))/\H hl=some (.lst hv)/\aJ (EJ bs qs H) hv hs
theorem wK.same{bs qs:List Str}{ds:List Int}{hs:List (Str×Ds)}{H H':Hp}(s:aY H H'){m:V}(h:wK bs qs ds hs H m):wK bs qs ds hs H' m:=by
 obtain⟨t,bl,ql,dl,hl,nm,Z,hv,e,h1,h2,O,M,Y,U,W⟩:=h;exact{t,bl,ql,dl,hl,nm,Z,hv,e,s _ _ h1,s _ _ h2,Paired.mono (fun v x z=>by
  obtain⟨a,n,e,y⟩:=z;exact{a,n,e,s _ _ y}) O,s _ _ M,s _ _ Y,s _ _ U,Paired.mono (fun _ _ z=>z.same s) W}
def wrB(bs:List Str)(w:Wk):List (Str×Int):=(bs.filter fun x=>decide (x∈w.wr)).map fun x=>(x,wH w.bx x)
def wrQ(qs:List Str)(w:Wk):List (Str×List Int):=(qs.filter fun x=>decide (x∈w.wr)).map fun x=>(x,jO w.qu x)
def zg(G:Hp)(v:V)(p:Str×Int):Prop:=∃t,v=.ref t/\G t=some (.tup [.str p.1,.int p.2])
def AA(G:Hp)(v:V)(p:Str×aa):Prop:=∃t,v=.ref t/\G t=some (.tup [.str p.1,.ref p.2])
theorem zg.keep{G G':Hp}(k:∀a xs,G a=some (.tup xs)->G' a=some (.tup xs)){v:V}{p:Str×Int}(h:zg G v p):zg G' v p:=by
 obtain⟨t,e,h1⟩:=h;exact{t,e,k _ _ h1}
theorem AA.keep{G G':Hp}(k:∀a xs,G a=some (.tup xs)->G' a=some (.tup xs)){v:V}{p:Str×aa}(h:AA G v p):AA G' v p:=by
 obtain⟨t,e,h1⟩:=h;exact{t,e,k _ _ h1}
structure WrIn(bs qs:List Str)(w:Wk)(H G:Hp)(wl:aa)(ws1 ws2:List V)(qa:List (Str×aa)):Prop where
 hl:G wl=some (.lst (ws1++ws2))
 b:aJ (zg G) ws1 (wrB bs w)
 q:aJ (AA G) ws2 qa
 l:gE G qa (wrQ qs w)
 nd:(wl::qa.map (·.2)).Nodup
 fr:∀a∈wl::qa.map (·.2),H a=none
theorem uO{p:Str->Bool}{xs:List Str}{i:Nat}{x:Str}(h:xs[i]?=some x):(xs.take (i+1)).filter p=(xs.take i).filter p++if p x=true then [x] else []:=by
 rw[fZ,h,tK];show _++[x].filter p=_
 by_cases c:p x=true
 ·rw[if_pos c,pC c];rfl
 ·rw[if_neg c,AB c];rfl
theorem sW{H G:Hp}{a:aa}(s:aY H G)(n:H a=none)(o:HO):aY H (upd G a o):=fun b u e=>by
 rw[aL (aw e n)];exact s _ _ e
theorem none_of{H G:Hp}(s:aY H G){a:aa}(n:G a=none):H a=none:=by
 cases z:H a with
 |none=>rfl
 |some o=>
  rw[s _ _ z]at n
  cases n
section
variable{P:aK}{w:bD}{K:ae}{mg:Str->Option af}{base:cB}{f CD CS CM:aa}{fd:bU}{bs qs:List Str}
inductive LH(CD CS:aa)(bs qs:List Str)(vs:List V)(H:Hp)(Q:VK)(_e:XK):Prop where
 |mk(H0:Hp)(L:Lay)(h:Ev)(ds:List Int)(w:Wk)(hs:List (Str×Ds))(_:vs=[.ref L.d])(_:Dg CD CS bs qs H0 H L h ds w)(_:wK bs qs ds hs H0 L.m)(_:∀(G:Hp) (wl:aa) (ws1 ws2:List V) (qa:List (Str×aa)),aY H G->WrIn bs qs w H G wl ws1 ws2 qa->Q (.ref wl) G):LH CD CS bs qs vs H Q _e
def spWr(CD CS:aa)(bs qs:List Str):Sp:=fun vs H Q Z=>LH CD CS bs qs vs H Q Z
theorem Kd:bO ["doing","writes","box","name"] ["doing"] (aN mJ):={}
theorem EK(D:Df K mg "writes_of" mJ ["doing"] f fd)(T:DT K mg CD)(TM:MdT K mg CM CS)(B:Bl mg):bC P w K mg base CX0 1 f fd ["doing"] (spWr CD CS bs qs):=by
 refine D.F.ok Kd (fun vs H Q E h=>?_) (fun bS A outer s H vs Q E hr h=>?_)
 ·obtain⟨H0,L,h,ds,w,hs,rfl,_⟩:=h;rfl
 obtain⟨H0,L,h,ds,w,hs,rfl,g,⟨t,bl,ql,dl,hl,nm,vb,hv,em,ht,cd,pb,ci,hdl,bI,_⟩,k⟩:=h;have hu:=mC hr;refine{_,aj (bE (i:=1) Kd.nd rfl (Or.inl rfl) (eQ ai))
  (aj (jA cY rfl (iM (bR cv (cU (pv 0) rfl) au (fun _ _=>rfl))) (dS (i:=2) Kd.nd rfl (Or.inl rfl)) (aD (cW (pX (FW hu (bR cv (pv 2) au (fun _ _=>rfl)) (cU (pv 0) rfl)))
   (aD (eR (pz cD dI dJ iO (pv 1) (aq (d9 (aq (bR cv (pv 2) au (fun _ _=>rfl)) (aq (qO hu (cU (cU (pv 0) rfl) rfl) (bR cv (pv 2) au (fun _ _=>rfl)) (fun _ _=>rfl)) ai))) ai)))) cj)))
  (aj (jA cY rfl (iM (bR cv (cU (pv 0) rfl) au (fun _ _=>rfl))) (dS (i:=3) Kd.nd rfl (Or.inl rfl)) (aD (cW (pX (FW hu (pv 3) (cU (pv 0) rfl)))
   (aD (eR (pz cD dI dJ iO (pv 1) (aq (d9 (aq (pv 3) (aq (hV oK (by rfl) B.list boot_list (aq (qO hu (cU (cU (pv 0) rfl) rfl) (pv 3) (fun _ _=>rfl)) ai)) ai))) ai)))) cj)))
  (aD (bQ (pv 1))))),?_}
 have big:=eD;have fw:=g.ok.fw;rw[ax]at fw;refine{bV _,fun wl M=>?_};have s0:=aH M (.lst []);have ce:∀{G:Hp} (g:Dg CD CS bs qs H0 G L h ds w) (x:Str),pI G L.wd (.str x) (if x∈w.wr then some (.bl true) else none):=fun {G} g x=>by
  have z:=pI.k (k:=Sum.inr x) g.hw;rw[CO]at z;exact z
 refine{_,rfl,L.d,CD,L.dx,_,_,rfl,s0 _ _ g.hd,T.cl,T.nM,NC _ _ _ _ _ _ _ _,t,_,_,_,em,rfl,SqT.of (s0 _ _ (g.sm _ _ ht)),rfl,bl,rfl,{_,SqL.of (s0 _ _ (g.sm _ _ cd))},?_};refine jB (K:=K) (a:=bl) (xs:=vb) (fun i σ G=>∃(u:Option V) (ws:List V),σ=[some (.ref L.d),some (.ref wl),u,none]/\aY H G/\G wl=some (.lst ws)/\aJ (zg G) ws (((bs.take i).filter fun x=>decide (x∈w.wr)).map fun x=>(x,wH w.bx x))) {none,[],rfl,s0,ah,by rw[jS];exact .nil} ?_ ?_ ?_
 ·rintro i σ G _ ⟨_,_,rfl,sm,_⟩;exact SqL.of (sm _ _ (g.sm _ _ cd))
 ·rintro i x σ G hi ⟨u,ws,rfl,sm,W,U⟩;have g1:=g.same sm;obtain⟨y,hy,a,n,rfl,ha⟩:=oj pb hi;have ha:=g1.sm _ _ ha;have my:y∈bs:=cA hy;have ft:=uO (p:=fun x=>decide (x∈w.wr)) hy;refine{_,rfl,a,_,_,_,rfl,rfl,SqT.of ha,rfl,_,rfl,L.d,CD,L.dx,_,_,rfl,g1.hd,T.cl,T.nW,Hr _ _ _ _ _ _ _ _,L.wd,_,rfl,ce g1 y,_,rfl,?_}
  by_cases c:y∈w.wr
  ·rw[if_pos c];rw[if_pos (decide_eq_true c)]at ft;refine iA ?_;refine{_,rfl,.inl {rfl,_,SqL.of W},_,rfl,a,_,_,_,rfl,rfl,SqT.of ha,rfl,_,rfl,L.d,CD,L.dx,_,_,rfl,g1.hd,T.cl,T.nS,xB _ _ _ _ _ _ _ _,L.st,CS,L.dxs,_,_,rfl,g1.hst,TM.clS,TM.nB,JY _ _ _ _,_,rfl,a,_,_,_,rfl,rfl,SqT.of ha,rfl,L.bd,_,rfl,(by have z:=pI.k (k:=Sum.inr y) g1.hb;rw[Hu (by rw[g1.ok.kb];exact my)]at z;exact z),lt2,fun O cr=>?_};have Z:=aH cr (.tup [.str y,.int (wH w.bx y)]);have lw:=aO U;have lf:(((bs.take i).filter fun x=>decide (x∈w.wr)).map fun x=>(x,wH w.bx x)).length<=bs.length:=by
    rw[av];refine dA (kF _ _) ?_;rw[cM];omega
   refine{wl,ws,_,rfl,rfl,Z _ _ W,(by omega),_,_,rfl,sW (sm.trans Z) M _,ah,?_};rw[ft,cu];have kp:∀b xs,upd G O (.tup [.str y,.int (wH w.bx y)]) b=some (.tup xs)->upd (upd G O (.tup [.str y,.int (wH w.bx y)])) wl (.lst (ws++[.ref O])) b=some (.tup xs):=fun b xs z=>aT z (o6 z (Z _ _ W) (by intro q;cases q));exact eN (Paired.mono (fun _ _ z=>(z.keep fun b xs e=>Z _ _ e).keep kp) U) {O,rfl,kp _ _ ah}
  ·rw[if_neg c];rw[if_neg (by rw[decide_eq_false c];decide),cq]at ft;refine gu {_,ws,rfl,sm,W,?_};rw[ft];exact U
 rintro σ G ⟨u,cs,rfl,sm,W,U⟩;have g1:=g.same sm;have bW:vb.length=bs.length:=aO pb;rw[bW,eg]at U;refine{_,rfl,L.d,CD,L.dx,_,_,rfl,g1.hd,T.cl,T.nM,NC _ _ _ _ _ _ _ _,t,_,_,_,em,rfl,SqT.of (g1.sm _ _ ht),rfl,ql,rfl,{_,SqL.of (g1.sm _ _ ci)},?_};refine jB (K:=K) (a:=ql) (xs:=qs.map V.str) (fun i σ G=>∃(u v:Option V) (Y:List V) (qa:List (Str×aa)),σ=[some (.ref L.d),some (.ref wl),u,v]/\aY H G/\G wl=some (.lst (cs++Y))/\aJ (zg G) cs (wrB bs w)/\aJ (AA G) Y qa /\
  gE G qa (((qs.take i).filter fun x=>decide (x∈w.wr)).map fun x=>(x,jO w.qu x))/\(wl::qa.map (·.2)).Nodup/\∀a∈wl::qa.map (·.2),H a=none) {_,_,[],[],rfl,sm,by rw[cq];exact W,U,.nil,by rw[jS];exact .nil,by simp,fun a ha=>by rw[aA.mp ha];exact M} ?_ ?_ ?_
 ·rintro i σ G _ ⟨_,_,_,_,rfl,sm,_⟩;exact SqL.of (sm _ _ (g.sm _ _ ci))
 ·rintro i x σ G hi ⟨u,v,Y,qa,rfl,sm,W,U,pq,pl,nd,fr⟩;have g1:=g.same sm;obtain⟨y,hy,rfl⟩:∃y,qs[i]?=some y/\x=.str y:=by
   rw[cC]at hi
   cases z:qs[i]? with
   |none=>
    rw[z]at hi
    cases hi
   |some y=>
    rw[z]at hi
    cases hi;exact⟨y,rfl,rfl⟩
  have my:y∈qs:=cA hy;have ft:=uO (p:=fun x=>decide (x∈w.wr)) hy;refine{_,rfl,_,rfl,L.d,CD,L.dx,_,_,rfl,g1.hd,T.cl,T.nW,Hr _ _ _ _ _ _ _ _,L.wd,_,rfl,ce g1 y,_,rfl,?_}
  by_cases c:y∈w.wr
  ·rw[if_pos c];rw[if_pos (decide_eq_true c)]at ft;refine iA ?_;obtain⟨l,h1,h2,h3⟩:=g1.getL my;refine{_,rfl,.inl {rfl,_,SqL.of W},_,rfl,_,rfl,L.d,CD,L.dx,_,_,rfl,g1.hd,T.cl,T.nS,xB _ _ _ _ _ _ _ _,L.st,CS,L.dxs,_,_,rfl,g1.hst,TM.clS,TM.nQ,JZ _ _ _ _,_,rfl,L.qd,_,rfl,h3,l,_,rfl,.inl (SqL.of h2),fun I J=>?_};have sn:=aH J (.lst ((jO w.qu y).map V.int));refine{lt2,fun O cr=>?_};have Z:=aH cr (.tup [.str y,.ref I]);have lw:=aO pq;have lb:=aO U;have lq:=aO pl;have lf:(((qs.take i).filter fun x=>decide (x∈w.wr)).map fun x=>(x,jO w.qu x)).length<=qs.length:=by
    rw[av];refine dA (kF _ _) ?_;rw[cM];omega
   have bP:(wrB bs w).length<=bs.length:=by
    unfold wrB;rw[av];exact kF _ _
   have cp:=Z _ _ (sn _ _ W);have ca:I≠wl:=(aw W J).symm;have kp:∀b xs,upd (upd G I (.lst ((jO w.qu y).map V.int))) O (.tup [.str y,.ref I]) b=some (.tup xs)->upd (upd (upd G I (.lst ((jO w.qu y).map V.int))) O (.tup [.str y,.ref I])) wl (.lst (cs++Y++[.ref O])) b=some (.tup xs):=fun b xs z=>aT z (o6 z cp (by intro q;cases q));refine{wl,_,_,rfl,rfl,cp,(by rw[ax];omega),_,_,Y++[.ref O],qa++[(y,I)],rfl,sW ((sm.trans sn).trans Z) M _,(by rw[<- g9];exact ah),?_,?_,?_,?_,?_}
   ·exact Paired.mono (fun _ _ z=>(z.keep fun b xs e=>Z _ _ (sn _ _ e)).keep kp) U
   ·exact eN (Paired.mono (fun _ _ z=>(z.keep fun b xs e=>Z _ _ (sn _ _ e)).keep kp) pq) {O,rfl,kp _ _ ah}
   ·rw[ft,cu];refine eN (gE.keep (L:={0,0,0,0,0,0,0,0,0,0,.non,.non,qa}) (fun a u e m=>aT (Z _ _ (sn _ _ e)) fun z=>?_) (fun _ h=>h) pl) {rfl,aT (Z _ _ ah) ca};rw[z]at m;exact (cK.mp nd).1 m
   ·rw[cu,<- IY];refine iK.mpr {nd,by simp,fun a ha b hb=>?_};rw[aA.mp hb];intro z
    rcases ar.mp ha with q|q
    ·exact ca ((show a=I from z).symm.trans q)
    ·obtain⟨xs,q⟩:=pl.there q;rw[show a=I from z,J]at q
     cases q
   ·intro a ha;rw[cu,<- IY]at ha
    rcases bM.mp ha with z|z
    ·exact fr a z
    ·rw[aA.mp z];exact none_of sm J
  ·rw[if_neg c];rw[if_neg (by rw[decide_eq_false c];decide),cq]at ft;refine gu {_,_,Y,qa,rfl,sm,W,U,pq,?_,nd,fr};rw[ft];exact pl
 rintro σ G ⟨u,v,Y,qa,rfl,sm,W,U,pq,pl,nd,fr⟩;rw[av,eg]at pl;exact{_,rfl,k G wl cs Y qa sm ⟨W,U,pq,pl,nd,fr⟩}
end
structure HH(CD CS:aa)(bs qs:List Str)(H G:Hp)(L:Lay)(h:Ev)(ds:List Int)(w:Wk)(t rc wl:aa)(ws1 ws2:List V)(qa:List (Str×aa)):Prop where
 dg:∃H0,aY H H0/\Dg CD CS bs qs H0 G L h ds w
 ht:G t=some (.tup [.ref L.st,.ref rc,.bl w.en])
 hrc:∃k,G rc=some (.tup [.ref k,.int h.to,.str h.sg,.int h.a,.int h.b,.ref wl,.ref L.od])/\H k=some (.tup [.int h.t,.int h.r,.int h.fr,.int h.c])
 wr:WrIn bs qs w H G wl ws1 ws2 qa
 nd:(L.all++wl::qa.map (·.2)).Nodup
theorem HH.sm{CD CS:aa}{bs qs:List Str}{H G:Hp}{L:Lay}{h:Ev}{ds:List Int}{w:Wk}{t W wl:aa}{Y Z:List V}{qa:List (Str×aa)}(n:HH CD CS bs qs H G L h ds w t W wl Y Z qa):aY H G:=by
 obtain⟨H0,s,g⟩:=n.dg;exact s.trans g.sm
def w0(bx:List (Str×Int))(qu:List (Str×List Int))(dr:Nat)(se:Int):Wk:={bx,qu,dr,se,[],[],false,[],[]}
section
variable{P:aK}{w:bD}{K:ae}{mg:Str->Option af}{base:cB}{f fI fS fB fW fO CD CS CM:aa}{fd fdI fdS fdB fdW fdO:bU}{bs qs:List Str}{cf:Flt->aa}
inductive C9(cf:Flt->aa)(CM CD CS:aa)(bs qs:List Str)(n:Nat)(vs:List V)(H:Hp)(Q:VK)(E:XK):Prop where
 |mk(m dxm ml st:aa)(fs:List (Str×V))(ms:List V)(hv mv:V)(h:Ev)(ds:List Int)(hs:List (Str×Ds))(bx:List (Str×Int))(qu:List (Str×List Int))(dr:Nat)(se:Int)(_:vs=[.ref m,.ref st,hv])(_:H m=some (.ins CM dxm fs))(_:fs.lookup ("machines":Str)=some (.ref ml))(_:H ml=some (.lst ms))(_:hZ H hv h)(_:atI ms h.to=some mv)(_:wK bs qs ds hs H mv)(_:jP CS H st bx qu dr se)(_:qx bs qs (w0 bx qu dr se))(_:Wo h.t)(_:Wo h.a)(_:Wo h.b)(_:(jJ hs h.sg).deep<n)(_:(jJ hs h.sg).size<100000) (_:match doS h ds (jJ hs h.sg) (w0 bx qu dr se) with
 |.ok w'=>∀(G:Hp) (L:Lay) (t rc wl:aa) (ws1 ws2:List V) (qa:List (Str×aa)),HH CD CS bs qs H G L h ds w' t rc wl ws1 ws2 qa->Q (.ref t) G
 |.error e=>∀G,aY H G->E (.ref (cf e)) none G):C9 cf CM CD CS bs qs n vs H Q E
def HI(cf:Flt->aa)(CM CD CS:aa)(bs qs:List Str)(n:Nat):Sp:=fun vs H Q E=>C9 cf CM CD CS bs qs n vs H Q E
theorem by_go{CD CS:aa}{bs qs:List Str}{H G:Hp}{L:Lay}{h:Ev}{ds:List Int}{w:Wk}{O hl:aa}{x0 x1 x2 x3:V}{Y:List V}{hs:List (Str×Ds)}{sg:Str}{I:VK}{E:XK}(g:Dg CD CS bs qs H G L h ds w)(U:H O=some (.tup [x0,x1,x2,x3,.ref hl]))(M:H hl=some (.lst Y))(ph:aJ (EJ bs qs H) Y hs)
  (k:∀(H0 W:Hp) (u:V),aY H H0->aY G W->Dg CD CS bs qs H0 W L h ds w->mP H0 (fJ bs qs H0 (jJ hs sg)) u->I u W):NQ bs qs [.ref O,.str sg] G I E:=by
 refine{H,O,hl,_,_,_,_,Y,hs,sg,rfl,g.sm,U,M,ph,fun u hu=>k H G u (aY.refl _) (aY.refl _) g hu,fun l Z e=>?_};have sl:=aH Z (.lst []);have nl:=none_of g.sm Z;have J:=aH nl (.lst []);have D:aY (upd H l (.lst [])) (upd G l (.lst [])):=fun b o z=>by
  by_cases c:b=l
  ·rw[c]at z |-;rw[ah]at z |-;exact z
  ·rw[aL c]at z |-;exact g.sm _ _ z
 refine k _ _ _ J sl (g.base sl J D fun a ha=>?_) {l,[],rfl,ah,by show 0<1000;decide,?_}
 ·obtain⟨o,z⟩:=g.there a ha;rw[aL (aw z Z)];exact g.fr a ha
 ·rw[e];simp only[fJ]
inductive HJ(cf:Flt->aa)(CM CD CS:aa)(bs qs:List Str)(n:Nat)(vs:List V)(H:Hp)(Q:VK)(E:XK):Prop where
 |mk(m dxm ml st:aa)(fs:List (Str×V))(ms:List V)(hv mv:V)(h:Ev)(ds:List Int)(hs:List (Str×Ds))(bx:List (Str×Int))(qu:List (Str×List Int))(dr:Nat)(se:Int)(_:vs=[.ref m,.ref st,hv])(_:H m=some (.ins CM dxm fs))(_:fs.lookup ("machines":Str)=some (.ref ml))(_:H ml=some (.lst ms))(_:hZ H hv h)(_:atI ms h.to=some mv)(_:wK bs qs ds hs H mv)(_:jP CS H st bx qu dr se)(_:qx bs qs (w0 bx qu dr se))(_:Wo h.t)(_:Wo h.a)(_:Wo h.b)(_:(jJ hs h.sg).deep<n)(_:(jJ hs h.sg).size<100000) (_:match doS h ds (jJ hs h.sg) (w0 bx qu dr se) with
 |.ok w'=>∀(H0 G:Hp) (L:Lay),aY H H0->Dg CD CS bs qs H0 G L h ds w'->L.m=mv->Q (.ref L.d) G
 |.error e=>∀G,aY H G->E (.ref (cf e)) none G):HJ cf CM CD CS bs qs n vs H Q E
def LI(cf:Flt->aa)(CM CD CS:aa)(bs qs:List Str)(n:Nat):Sp:=fun vs H Q E=>HJ cf CM CD CS bs qs n vs H Q E
theorem NR:bO ["model","state","happening","machine","doing"] ["model","state","happening"] (aN oS):={}
theorem NS{n:Nat}(D:Df K mg "doing_of" oS ["model","state","happening"] f fd)(MD:Mk K CD fI)(bI:Binds K fdI ["self","machine","state","happening"] [])(GI:bC P w K mg base CX0 4 fI fdI ["self","machine","state","happening"] (NP CD CS bs qs))
  (DS:Df K mg "do_deeds" iI ["doing","deeds"] fS fdS) (GS:bC P w K mg base (CXo P w) (20+3*n) fS fdS ["doing","deeds"] (wI cf CD CS bs qs n)) (M:Df K mg "deeds_by_sign" ie ["machine","sign"] fB fdB) (T:DT K mg CD) (TM:MdT K mg CM CS) :
  bC P w K mg base (CXo P w) (20+3*n+1) f fd ["model","state","happening"] (LI cf CM CD CS bs qs n):=by
 have GB:bC P w K mg base CX0 1 fB fdB ["machine","sign"] (NQ bs qs):=ok_by M;refine D.F.okX NR (fun vs H Q E h=>?_) (fun dV A outer s H vs Q E hr h=>?_)
 ·obtain⟨m,U,ml,st,fs,ms,hv,mv,h,ds,hs,bx,qu,dr,se,rfl,_⟩:=h;rfl
 obtain⟨m,U,ml,st,fs,ms,hv,mv,h,ds,hs,bx,qu,dr,se,rfl,hm,J,eb,hE,I,hM,hS,ok,wt,wa,wb,dn,sz,p⟩:=h;have r1:cX 1 _:=hr.mono (by omega);have r5:cX 5 _:=hr.mono (by omega);refine{_,aj (bE (i:=3) NR.nd rfl (Or.inl rfl) (bR dB (cU (pv 0) rfl) (bR cv (pv 2) au (fun _ _=>rfl)) (fun _ _=>rfl)))
  (aj (bE (i:=4) NR.nd rfl (Or.inl rfl) (iN MD GI r5 (by rfl) T.mD bI .nil bh (aq (pv 3) (aq (pv 1) (aq (pv 2) ai)))))
  (aj (eR (aM GS hr (by rfl) DS.m DS.F.kp DS.b .nil (dO.passes fun _ _ _ z=>z) (aq (pv 4) (aq (aM GB r1 (by rfl) M.m M.F.kp M.b .nil bh (aq (pv 3) (aq (bR cv (pv 2) au (fun _ _=>rfl)) ai))) ai))))
  (aD (bQ (pv 4))))),?_}
 obtain⟨th,kh,rfl,O,dz⟩:=id hE;obtain⟨tm,bl,ql,dl,hl,nm,vb,dL,rfl,Y,dt,pb,dv,hdl,ea,ph⟩:=hM.ex;refine{_,rfl,m,CM,U,_,_,rfl,hm,TM.clM,TM.nM,J,_,rfl,th,_,_,_,rfl,rfl,SqT.of O,rfl,ml,_,_,_,rfl,rfl,SqL.of eb,I,?_};refine{_,rfl,_,rfl,_,rfl,?_};intro d dx W ec dG;have sA:aY H (upd (upd H dx (.own d)) d (.ins CD dx [])):=fun b o e=>by
  rw[aL (aw e W),aL (aw e ec)];exact e
 refine{H,d,dx,st,.ref tm,.ref th,h,ds,bx,qu,dr,se,rfl,ah,W,sA,hS,hE,{tm,_,_,_,_,dl,rfl,Y,hdl},ok,wt,wa,wb,fun G L eL em g=>{rfl,?_}};have ed:=g.sm _ _ O;refine{_,rfl,_,rfl,_,rfl,th,_,_,_,rfl,rfl,SqT.of ed,rfl,?_};subst eL;refine by_go (E:=E0) g Y ea ph fun H0 G1 u s0 s1 g1 hu=>?_;refine{H0,L,h,ds,w0 bx qu dr se,u,jJ hs h.sg,rfl,g1,hu,dn,(by show 0+_<_;omega),?_};have ee:∀{dg:Wk->Hp->Prop} {r:Except Flt Wk} {Q1:VK} {k:Nat},r=doS h ds (jJ hs h.sg) (w0 bx qu dr se)->(∀V Z,r=.ok V->dg V Z->Q1 .non Z)->uf cf dg H0 k r Q1 E:=fun {dg r Q1 k} e q=>by
  cases r with
  |ok V=>exact fun Z g2 _=>q V Z rfl g2
  |error er=>
   rw[<- e]at p;exact fun Z s2=>p Z (s0.trans s2)
 refine ee rfl fun V Z ew g2=>?_;rw[ew]at p;exact{_,rfl,p H0 Z L s0 g2 em}
theorem NT:bO ["model","state","happening","doing","record"] ["model","state","happening"] (aN y8):={}
theorem sX{n:Nat}(D:Df K mg "done" y8 ["model","state","happening"] f fd)(U:Df K mg "doing_of" oS ["model","state","happening"] fO fdO)(MD:Mk K CD fI)(bI:Binds K fdI ["self","machine","state","happening"] [])(GI:bC P w K mg base CX0 4 fI fdI ["self","machine","state","happening"] (NP CD CS bs qs))
  (DS:Df K mg "do_deeds" iI ["doing","deeds"] fS fdS) (GS:bC P w K mg base (CXo P w) (20+3*n) fS fdS ["doing","deeds"] (wI cf CD CS bs qs n)) (DB:Df K mg "deeds_by_sign" ie ["machine","sign"] fB fdB) (O:Df K mg "writes_of" mJ ["doing"] fW fdW) (T:DT K mg CD) (TM:MdT K mg CM CS) (B:Bl mg) :
  bC P w K mg base (CXo P w) (20+3*n+2) f fd ["model","state","happening"] (HI cf CM CD CS bs qs n):=by
 have GO:bC P w K mg base (CXo P w) (20+3*n+1) fO fdO ["model","state","happening"] (LI cf CM CD CS bs qs n):=NS U MD bI GI DS GS DB T TM;have GW:bC P w K mg base CX0 1 fW fdW ["doing"] (spWr CD CS bs qs):=EK O T TM B;refine D.F.okX NT (fun vs H Q E h=>?_) (fun dv A outer s H vs Q E hr h=>?_)
 ·obtain⟨m,V,ml,st,fs,ms,hv,mv,h,ds,hs,bx,qu,dr,se,rfl,_⟩:=h;rfl
 obtain⟨m,V,ml,st,fs,ms,hv,mv,h,ds,hs,bx,qu,dr,se,rfl,hm,J,dG,hE,I,hM,hS,ok,wt,wa,wb,dn,sz,p⟩:=h;have r1:cX 1 _:=hr.mono (by omega);refine{_,aj (bE (i:=3) NT.nd rfl (Or.inl rfl) (aM GO hr (by rfl) U.m U.F.kp U.b .nil (dO.passes fun _ _ _ z=>z) (aq (pv 0) (aq (pv 1) (aq (pv 2) ai)))))
  (aj (bE (i:=4) NT.nd rfl (Or.inl rfl) (cL Ck (pv 2) (d9 (aq (aM GW r1 (by rfl) O.m O.F.kp O.b .nil bh (aq (pv 3) ai)) (aq (cU (pv 3) rfl) ai)))))
  (aD (bQ (d9 (aq (cU (pv 3) rfl) (aq (pv 4) (aq (cU (pv 3) rfl) ai))))))),?_}
 obtain⟨th,kh,rfl,dL,g⟩:=id hE;refine{_,rfl,_,rfl,_,rfl,m,V,ml,st,fs,ms,_,mv,h,ds,hs,bx,qu,dr,se,rfl,hm,J,dG,hE,I,hM,hS,ok,wt,wa,wb,dn,sz,?_}
 cases ew:doS h ds (jJ hs h.sg) (w0 bx qu dr se) with
 |error e=>
  rw[ew]at p;exact p
 |ok w'=>
 rw[ew]at p;intro H0 G2 L M Y em;have W:=Y.sm _ _ (M _ _ dL);have gM:wK bs qs ds hs H0 L.m:=by
  rw[em];exact hM.same M
 refine{_,rfl,_,rfl,H0,L,h,ds,w',hs,rfl,Y,gM,fun G3 wl dz dV qa s3 wr=>?_};have g3:=Y.same s3;refine{_,rfl,L.d,CD,L.dx,_,_,rfl,g3.hd,T.cl,T.nO,dF_o _ _ _ _ _ _ _ _,lt2,fun tt ea=>?_};have s4:=aH ea (.tup [.ref wl,.ref L.od]);refine{th,tt,_,_,rfl,rfl,SqT.of (s4 _ _ (s3 _ _ W)),SqT.of ah,(by intro z;cases z),(by show 7<=aB;decide),(fun z=>by cases z),fun _ rc hrc=>?_};have s5:=aH hrc (.tup [.ref kh,.int h.to,.str h.sg,.int h.a,.int h.b,.ref wl,.ref L.od]);have g5:=(g3.same s4).same s5;refine{_,rfl,L.d,CD,L.dx,_,_,rfl,g5.hd,T.cl,T.nS,xB _ _ _ _ _ _ _ _,_,rfl,_,rfl,L.d,CD,L.dx,_,_,rfl,g5.hd,T.cl,T.nE,dF_e _ _ _ _ _ _ _ _,(by show 3<=aB;decide),fun t ht=>?_};have s6:=aH ht (.tup [.ref L.st,.ref rc,.bl w'.en]);have Z:=(s4.trans s5).trans s6;refine p _ L t rc wl dz dV qa {{H0,M,g5.same s6},ah,{kh,s6 _ _ ah,g},{Z _ _ wr.hl,Paired.mono (fun _ _ z=>z.keep fun b xs e=>Z _ _ e) wr.b,Paired.mono (fun _ _ z=>z.keep fun b xs e=>Z _ _ e) wr.q,wr.l.same Z,wr.nd,fun a ha=>none_of (M.trans Y.sm) (wr.fr a ha)},?_};refine iK.mpr {Y.nd,wr.nd,fun a ha b hb z=>?_};obtain⟨o,y⟩:=Y.there a ha;rw[z,wr.fr b hb]at y
 cases y
end
theorem cy{t u:TS}{D:mY}{σ:St}{H:Hp}(h:t {D with nx:=u D} σ H):Jc t u D σ H:=h
theorem cZ{te:TE}{g:TG}{D:mY}{σ:St}{H:Hp}(h:te σ H fun x H1=>g x σ H1 D.nx):Fq te g D σ H:=h
theorem bK{i:Nat}{v:V}{σ:St}{H:Hp}{Q:St->Hp->Prop}(h:Q (σ.set i (some v)) H):zW i v σ H Q:=h
theorem uh{C:aa}{sp:Sp}{dvs:List V}{E:XK}{t:TA}{σ:St}{H:Hp}{Q:VK} (h:t σ H fun vs H1=>∀x dx,H1 x=none->H1 dx=none->dx≠x ->
  sp (.ref x::(vs++dvs)) (upd (upd H1 dx (.own x)) x (.ins C dx [])) (fun v H2=>v=.non/\Q (.ref x) H2) E):Lc C sp dvs E t σ H Q:=h
section
variable{X:Cx}{e:cS}{ta:TE}{f:Str}{pos:Pos}
theorem eE(K:ae)(Z:X.K=K)(Y:PE X e ta)(hb:lY e f X.env (gf e X.env)=gf e X.env):PE X (.Attribute e f pos) (FF K ta f):=by
 rw[<- Z];exact cU Y hb
theorem AC(K:ae)(Z:X.K=K):mB X (.type "list") (fun xs H Q=>∃p ys,xs=[.ref p]/\(SqL K H p ys\/SqT K H p ys)/\∀l,H l=none->Q (.ref l) (upd H l (.lst ys))):=by
 rw[<- Z];exact oK
end
theorem Da{H:Hp}{n:Nat}{t:aa}{xs:List V}(ht:H t=some (.tup xs)\/H t=some (.lst xs))(T:Tree H n (.ref t)):∃m,n=m+1/\∀x∈xs,Tree H m x:=by
 cases n with
 |zero=>exact T.elim
 |succ m=>
  refine{m,rfl,?_}
  rcases T with T|⟨p,ys,e,h1,_,h2⟩
  ·exact T.elim
  ·cases e;have Z:xs=ys:=by
    rcases ht with ht|ht<;>rcases h1 with h1|h1<;>rw[ht]at h1<;>cases h1<;>rfl
   rw[Z];exact h2
theorem iZ{H H':Hp}{n:Nat}{t:aa}{xs:List V}{Z:V}(ht:H t=some (.tup xs))(T:Tree H n (.ref t))(Y:Alike H H' n (.ref t) Z):∃m t' ys,Z=.ref t'/\H' t'=some (.tup ys)/\aJ (Alike H H' m) xs ys/\∀x∈xs,Tree H m x:=by
 obtain⟨m,rfl,h⟩:=Da (.inl ht) T;obtain⟨t',ys,e,h1,h2⟩:=uc ht Y;exact⟨m,t',ys,e,h1,h2,h⟩
theorem wL{H H':Hp}{n:Nat}{t:aa}{xs:List V}{Z:V}(ht:H t=some (.lst xs))(T:Tree H n (.ref t))(Y:Alike H H' n (.ref t) Z):∃m t' ys,Z=.ref t'/\H' t'=some (.lst ys)/\aJ (Alike H H' m) xs ys/\∀x∈xs,Tree H m x:=by
 obtain⟨m,rfl,h⟩:=Da (.inr ht) T;obtain⟨t',ys,e,h1,h2⟩:=n6 ht Y;exact⟨m,t',ys,e,h1,h2,h⟩
theorem dM{R:V->V->Prop}{x:V}{xs ys:List V}(r:aJ R (x::xs) ys):∃y Z,ys=y::Z/\R x y/\aJ R xs Z:=by
 cases r with
 |cons a b=>exact{_,_,rfl,a,b}
theorem om{R:V->V->Prop}{ys:List V}(r:aJ R [] ys):ys=[]:=by
 cases r;rfl
theorem jy.alike{bs qs:List Str}{H H':Hp}{v:V}{F:Fm}(h:jy bs qs H v F):∀{n:Nat} {W:V},Tree H n v->Alike H H' n v W->jy bs qs H' W F:=by
 induction h with
 |num h1 h2=>
  intro n W T Y;obtain⟨m,t',ys,rfl,g1,Z,_⟩:=iZ h1 T Y;rw[iT Z (by intro x hx;simp only[ar,aV,or_false]at hx;rcases hx with rfl|rfl<;>exact trivial)]at g1;exact .num g1 h2
 |box h1 h2=>
  intro n W T Y;obtain⟨m,t',ys,rfl,g1,Z,_⟩:=iZ h1 T Y;rw[iT Z (by intro x hx;simp only[ar,aV,or_false]at hx;rcases hx with rfl|rfl<;>exact trivial)]at g1;exact .box g1 h2
 |long h1 h2=>
  intro n W T Y;obtain⟨m,t',ys,rfl,g1,Z,_⟩:=iZ h1 T Y;rw[iT Z (by intro x hx;simp only[ar,aV,or_false]at hx;rcases hx with rfl|rfl<;>exact trivial)]at g1;exact .long g1 h2
 |got h1=>
  intro n W T Y;obtain⟨m,t',ys,rfl,g1,Z,_⟩:=iZ h1 T Y;rw[iT Z (by intro x hx;simp only[ar,aV,or_false]at hx;rcases hx with rfl|rfl<;>exact trivial)]at g1;exact .got g1
 |now h1=>
  intro n W T Y;obtain⟨m,t',ys,rfl,g1,Z,_⟩:=iZ h1 T Y;rw[iT Z (by intro x hx;rw[aA.mp hx];exact trivial)]at g1;exact .now g1
 |two h1 h2 _ _ i1 i2=>
  intro n W T Y;obtain⟨m,t',ys,rfl,g1,Z,tr⟩:=iZ h1 T Y;obtain⟨J,U,rfl,M,Z⟩:=dM Z;obtain⟨I,U,rfl,a1,Z⟩:=dM Z;obtain⟨D,U,rfl,a2,Z⟩:=dM Z;obtain rfl:=om Z;have O:=fH (v:=.str _) trivial M;rw[O]at g1;exact .two g1 h2 (i1 (tr _ (by simp)) a1) (i2 (tr _ (by simp)) a2)
theorem FmI.alike{bs qs:List Str}{H H':Hp}{v Z:V}{F:Fm}{n:Nat}(h:FmI bs qs H v F)(T:Tree H n v)(Y:Alike H H' n v Z):FmI bs qs H' Z F:={h.1.alike T Y,h.2}
theorem mP.alike{H H':Hp}{R W:List V->Prop}{v Z:V}{n:Nat}(h:mP H R v)(T:Tree H n v)(O:Alike H H' n v Z)(k:∀m vs ys,R vs->aJ (Alike H H' m) vs ys->(∀x∈vs,Tree H m x)->W ys):mP H' W Z:=by
 obtain⟨l,vs,rfl,h1,h2,U⟩:=h;obtain⟨m,t',ys,rfl,g1,Y,tr⟩:=wL h1 T O;exact{t',ys,rfl,g1,by rw[<- aO Y];exact h2,k m vs ys U Y tr}
mutual
theorem eK.alike{bs qs:List Str}{H H':Hp}:∀(d:Dd) (v J:V) (n:Nat),eK bs qs H d v->Tree H n v->Alike H H' n v J->eK bs qs H' d J
 |.put x f,v,J,n,h,T,W=>by
  obtain⟨t,u,rfl,h1,h2,O⟩:=(by simpa only[eK] using h);obtain⟨m,t',ys,rfl,g1,Z,tr⟩:=iZ h1 T W;obtain⟨I,Y,rfl,U,Z⟩:=dM Z;obtain⟨D,Y,rfl,a1,Z⟩:=dM Z;obtain⟨M,Y,rfl,a2,Z⟩:=dM Z;obtain rfl:=om Z;rw[fH (v:=.str _) trivial U,fH (v:=.str _) trivial a1]at g1;simp only[eK];exact{t',M,rfl,g1,h2,O.alike (tr _ (by simp)) a2}
 |.push x f,v,J,n,h,T,W=>by
  obtain⟨t,u,rfl,h1,h2,O⟩:=(by simpa only[eK] using h);obtain⟨m,t',ys,rfl,g1,Z,tr⟩:=iZ h1 T W;obtain⟨I,Y,rfl,U,Z⟩:=dM Z;obtain⟨D,Y,rfl,a1,Z⟩:=dM Z;obtain⟨M,Y,rfl,a2,Z⟩:=dM Z;obtain rfl:=om Z;rw[fH (v:=.str _) trivial U,fH (v:=.str _) trivial a1]at g1;simp only[eK];exact{t',M,rfl,g1,h2,O.alike (tr _ (by simp)) a2}
 |.pull q x o,v,J,n,h,T,W=>by
  obtain⟨t,u,rfl,h1,h2,O,g⟩:=(by simpa only[eK] using h);obtain⟨m,t',ys,rfl,g1,Z,tr⟩:=iZ h1 T W;obtain⟨I,Y,rfl,U,Z⟩:=dM Z;obtain⟨D,Y,rfl,a1,Z⟩:=dM Z;obtain⟨M,Y,rfl,a2,Z⟩:=dM Z;obtain⟨z,Y,rfl,a3,Z⟩:=dM Z;obtain rfl:=om Z;rw[fH (v:=.str _) trivial U,fH (v:=.str _) trivial a1,fH (v:=.str _) trivial a2]at g1;simp only[eK];exact{t',z,rfl,g1,h2,O,g.alike (tr _ (by simp)) a3 fun m vs ys a b c=>fJ.alike o vs ys m a b c}
 |.draw x f,v,J,n,h,T,W=>by
  obtain⟨t,u,rfl,h1,h2,O⟩:=(by simpa only[eK] using h);obtain⟨m,t',ys,rfl,g1,Z,tr⟩:=iZ h1 T W;obtain⟨I,Y,rfl,U,Z⟩:=dM Z;obtain⟨D,Y,rfl,a1,Z⟩:=dM Z;obtain⟨M,Y,rfl,a2,Z⟩:=dM Z;obtain rfl:=om Z;rw[fH (v:=.str _) trivial U,fH (v:=.str _) trivial a1]at g1;simp only[eK];exact{t',M,rfl,g1,h2,O.alike (tr _ (by simp)) a2}
 |.send to sg sp rk a b,v,J,n,h,T,W=>by
  obtain⟨t,u,u1,u2,rfl,h1,h2,O,g⟩:=(by simpa only[eK] using h);obtain⟨m,t',ys,rfl,g1,Z,tr⟩:=iZ h1 T W;obtain⟨I,Y,rfl,U,Z⟩:=dM Z;obtain⟨D,Y,rfl,a1,Z⟩:=dM Z;obtain⟨M,Y,rfl,a2,Z⟩:=dM Z;obtain⟨z,Y,rfl,a3,Z⟩:=dM Z;obtain⟨y4,Y,rfl,a4,Z⟩:=dM Z;obtain⟨y5,Y,rfl,a5,Z⟩:=dM Z;obtain⟨y6,Y,rfl,a6,Z⟩:=dM Z;obtain rfl:=om Z;rw[fH (v:=.str _) trivial U,fH (v:=.int _) trivial a1,fH (v:=.str _) trivial a2,fH (v:=.int _) trivial a4]at g1;simp only[eK];exact{t',z,y5,y6,rfl,g1,h2.alike (tr _ (by simp)) a3,O.alike (tr _ (by simp)) a5,g.alike (tr _ (by simp)) a6}
 |.ife f x y,v,J,n,h,T,W=>by
  obtain⟨t,u,u1,u2,rfl,h1,h2,O,g⟩:=(by simpa only[eK] using h);obtain⟨m,t',ys,rfl,g1,Z,tr⟩:=iZ h1 T W;obtain⟨I,Y,rfl,U,Z⟩:=dM Z;obtain⟨D,Y,rfl,a1,Z⟩:=dM Z;obtain⟨M,Y,rfl,a2,Z⟩:=dM Z;obtain⟨z,Y,rfl,a3,Z⟩:=dM Z;obtain rfl:=om Z;rw[fH (v:=.str _) trivial U]at g1;simp only[eK];exact{t',D,M,z,rfl,g1,h2.alike (tr _ (by simp)) a1,O.alike (tr _ (by simp)) a2 fun m vs ys a b c=>fJ.alike x vs ys m a b c,g.alike (tr _ (by simp)) a3 fun m vs ys a b c=>fJ.alike y vs ys m a b c}
 |.fin,v,J,n,h,T,W=>by
  obtain⟨t,rfl,h1⟩:=(by simpa only[eK] using h);obtain⟨m,t',ys,rfl,g1,Z,tr⟩:=iZ h1 T W;obtain⟨I,Y,rfl,U,Z⟩:=dM Z;obtain rfl:=om Z;rw[fH (v:=.str _) trivial U]at g1;simp only[eK];exact⟨t',rfl,g1⟩
theorem fJ.alike{bs qs:List Str}{H H':Hp}:∀(d:Ds) (vs ys:List V) (n:Nat),fJ bs qs H d vs->aJ (Alike H H' n) vs ys->(∀x∈vs,Tree H n x)->fJ bs qs H' d ys
 |.nil,vs,ys,n,h,Z,T=>by
  have e:vs=[]:=by simpa only[fJ] using h
  subst e;obtain rfl:=om Z;simp only[fJ]
 |.cons d r,vs,ys,n,h,Z,T=>by
  obtain⟨v,W,rfl,h1,h2⟩:=(by simpa only[fJ] using h);obtain⟨y,Y,rfl,a,b⟩:=dM Z;simp only[fJ];exact{y,Y,rfl,eK.alike d v y n h1 (T v aC) a,fJ.alike r W Y n h2 b fun x hx=>T x (ag _ hx)}
end
theorem qR{W:Type}{R U:V->W->Prop}{S:V->V->Prop}{T:V->Prop}(f:∀v a Y,R v a->S v Y->T v->U Y a):∀{xs ys:List V} {Z:List W},aJ R xs Z->aJ S xs ys->(∀x∈xs,T x)->aJ U ys Z:=by
 intro xs ys Z p
 induction p generalizing ys with
 |nil=>
  intro q _
  cases q;exact .nil
 |cons a b O=>
  intro q t
  cases q with
  |cons c d=>exact .cons (f _ _ _ a c (t _ aC)) (O d fun x hx=>t x (ag _ hx))
theorem wK.alike{bs qs:List Str}{ds:List Int}{hs:List (Str×Ds)}{H H':Hp}{v W:V}{n:Nat}(h:wK bs qs ds hs H v)(T:Tree H n v)(al:Alike H H' n v W):wK bs qs ds hs H' W:=by
 obtain⟨t,bl,ql,dl,hl,nm,vb,hv,rfl,h1,h2,h3,h4,h5,h6,h7⟩:=h.ex;obtain⟨m,t',ys,rfl,g1,Z,tr⟩:=iZ h1 T al;obtain⟨y0,Y,rfl,a0,Z⟩:=dM Z;obtain⟨y1,Y,rfl,a1,Z⟩:=dM Z;obtain⟨y2,Y,rfl,a2,Z⟩:=dM Z;obtain⟨y3,Y,rfl,a3,Z⟩:=dM Z;obtain⟨y4,Y,rfl,a4,Z⟩:=dM Z;obtain rfl:=om Z;obtain⟨m1,b',J,rfl,c1,d1,t1⟩:=wL h2 (tr _ (by simp)) a1;obtain⟨m2,q',dz,rfl,c2,d2,t2⟩:=wL h4 (tr _ (by simp)) a2;obtain⟨m3,e',dv,rfl,c3,d3,t3⟩:=wL h5 (tr _ (by simp)) a3;obtain⟨m4,f',M,rfl,c4,d4,t4⟩:=wL h6 (tr _ (by simp)) a4;rw[iT d2 (by intro x hx;obtain⟨z,_,rfl⟩:=cH.mp hx;exact trivial)]at c2;rw[iT d3 (by intro x hx;obtain⟨z,_,rfl⟩:=cH.mp hx;exact trivial)]at c3;refine{t',b',q',e',f',y0,J,M,rfl,g1,c1,qR (fun v a W x y z=>?_) h3 d1 t1,c2,c3,c4,qR (fun v a W x y z=>?_) h7 d4 t4}
 ·obtain⟨p,k,rfl,hp⟩:=x;obtain⟨m',I,ws,rfl,k1,k2,_⟩:=iZ hp z y;obtain⟨w0,wr,rfl,D,k2⟩:=dM k2;obtain⟨U,wr,rfl,g,k2⟩:=dM k2;obtain rfl:=om k2;rw[fH (v:=.str _) trivial D]at k1;exact⟨I,U,rfl,k1⟩
 ·obtain⟨p,u,rfl,hp,hu⟩:=x;obtain⟨m',I,ws,rfl,k1,k2,O⟩:=iZ hp z y;obtain⟨w0,wr,rfl,D,k2⟩:=dM k2;obtain⟨U,wr,rfl,g,k2⟩:=dM k2;obtain rfl:=om k2;rw[fH (v:=.str _) trivial D]at k1;exact{I,U,rfl,k1,hu.alike (O _ (by simp)) g fun m vs ys a b c=>fJ.alike _ vs ys m a b c}
def LJ(K:ae):List V->Hp->VK->Prop:=fun xs H Q=>∃p ys,xs=[.ref p]/\(SqL K H p ys\/SqT K H p ys)/\Q (.int ys.length) H
theorem eB{X:Cx}(K:ae)(Z:X.K=K):mB X (.builtin "len") (LJ K):=by
 rw[<- Z];exact ic
theorem HK{X:Cx}(K:ae)(Z:X.K=K):IxR X (M4 K):=by
 rw[<- Z];exact dB
theorem mT{X:Cx}(K:ae)(Z:X.K=K):IxR X (rIxT K):=by
 rw[<- Z];exact cv
theorem Ke{X:Cx}{pos:Pos}{es:List cS}{k:Nat}{t:TGs}{n:Nat}(K:ae)(Z:X.K=K)(hc:X.calm=true)(h:PGs X es t)
  (Y:(lu es X.env).length=n:=by rfl) (hst:(lu es X.env).findIdx? (·.1)=none:=by rfl):PG X (.Tuple es k pos) (gTup K n t):=by
 rw[<- Z];exact vQ hc h Y hst
theorem BR:1<=aB:=by decide
theorem gk{te:TE}{D:mY}{σ:St}{H:Hp}(h:te σ H D.rt):MA te D σ H:=h
theorem EL{K:ae}{m C dx U:aa}{fs:List (Str×V)}{f:Str}{ms:List V}{n i:Nat}{g:TG}{tc:L2.TT}{te:TE}{σ:St}{H:Hp}{Q:VK}(hv:σ[i]?=some (some (.ref m)))(hm:H m=some (.ins C dx fs))(cl:Cls K C)(na:eI K C f)(I:fs.lookup f=some (.ref U))(O:H U=some (.lst ms))(M:ms.length<1000)
  (Z:Nat->List V->Hp->Prop) (h0:Z 0 [] H) (hl:∀i ys H,i<=ms.length->Z i ys H->ys.length<aB)
  (hs:∀i ys H,i<ms.length->Z i ys H->g (.int (0+i)) (cF n none++σ) H fun Y H2=>Y.drop n=σ/\tc Y H2 fun b J=>if b=true then te Y J fun y H4=>Z (i+1) (ys++[y]) H4 else Z (i+1) ys J)
  (hd:∀ys H,Z ms.length ys H->∀p,H p=none->Q (.ref p) (upd H p (.lst ys))):uF n (Fy (lB (tCB (LJ K) (lB (FF K (vP i) f) zY)) zY)) g tc te σ H Q:=by
 refine{.ref m,hv,m,C,dx,fs,.ref U,rfl,hm,cl,na,I,U,ms,rfl,.inl (SqL.of O),(ms.length:Int),rfl,by omega,by omega,?_};rw[uX];refine{fun i k ys H=>k=ms.length-i/\i<=ms.length/\Z i ys H,{ms.length,by simp,bV _,h0},?_};rintro i k ys H ⟨rfl,hi,W⟩;refine{hl i ys H hi W,?_}
 by_cases lt:i<ms.length
 ·refine .inr {lt,Z (i+1),fun z H' D=>{ms.length-(i+1),by omega,rfl,lt,D},fun x H' y=>?_};obtain⟨e,y⟩:=y;subst e y;exact hs i ys _ lt W
 ·have e:i=ms.length:=by omega
  subst e;exact .inl {ay _,hd ys H W}
theorem BU{K:ae}{a:aa}{xs:List V}{n i:Nat}{g:TG}{tc:L2.TT}{te:TE}{σ:St}{H:Hp}{Q:VK}(hv:σ[i]?=some (some (.ref a)))(hx:SqL K H a xs)(Y:Nat->List V->Hp->Prop)(h0:Y 0 [] H)(hl:∀i ys H,i<=xs.length->Y i ys H->SqL K H a xs/\ys.length<aB)
  (hs:∀i x t ys H,xs[i]?=some x->Y i ys H->H t=none->g (.ref t) (cF n none++σ) (upd H t (.tup [.int i,x])) fun Z H2=>Z.drop n=σ/\tc Z H2 fun b W=>if b=true then te Z W fun y U=>Y (i+1) (ys++[y]) U else Y (i+1) ys W)
  (hd:∀ys H,Y xs.length ys H->∀p,H p=none->Q (.ref p) (upd H p (.lst ys))):uF n (Lo K (lB (vP i) zY)) g tc te σ H Q:=
 {.ref a,hv,a,rfl,⟨xs,hx⟩,EB Y h0 hl hs hd}
def pO(H:Hp)(v:V)(e:Ev):Prop:=∃t,v=.ref t/\H t=some (.tup [.int e.t,.int e.r,.int e.to,.str e.sg,.int e.a,.int e.b])
theorem pO.same{H H':Hp}(s:aY H H'){v:V}{e:Ev}(h:pO H v e):pO H' v e:=by
 obtain⟨t,e,h⟩:=h;exact{t,e,s _ _ h}
def atP(e:Ev)(i:Nat):Ev:={e with fr:=-1,c:=i}
section
variable{P:aK}{w:bD}{K:ae}{mg:Str->Option af}{base:cB}{f fP CB:aa}{fd fdP:bU}
inductive HL(vs:List V)(H:Hp)(Q:VK)(_e:XK):Prop where
 |mk(sl:aa)(svs:List V)(es:List Ev)(_:vs=[.ref sl])(_:H sl=some (.lst svs))(_:aJ (pO H) svs es)(_:es.length<1000)(_:∀(G:Hp) (l:aa) (ys:List V),aY H G->H l=none->G l=some (.lst ys)->ys.length=es.length->(∀i y e,ys[i]?=some y->es[i]?=some e->hZ G y (atP e i))->Q (.ref l) G):HL vs H Q _e
def HM:Sp:=fun vs H Q Z=>HL vs H Q Z
theorem scPf:bO ["signs"] ["signs"] (aN gi):={}
theorem ndPf:((["place","sign"]:List Str)++(["signs"]:List Str)).Nodup:=by decide +kernel
theorem wM(D:Df K mg "pending_at_first" gi ["signs"] f fd)(ME:mg "enumerate"=none):bC P w K mg base CX0 1 f fd ["signs"] HM:=by
 refine D.F.ok scPf (fun vs H Q E h=>?_) (fun bH A outer s H vs Q E hr h=>?_)
 ·obtain⟨sl,V,es,rfl,_⟩:=h;rfl
 obtain⟨sl,V,es,rfl,M,ps,bG,k⟩:=h;refine{_,aD (bQ (oO ["place","sign"] (iH.open (NN:=["signs"]) (N:=["signs"]) (sc:=aN gi) rfl rfl (by decide +kernel) rfl (by decide +kernel) (by decide +kernel) rfl (by decide +kernel)) rfl (JK (by rfl) ME (aq (pv 0) ai))
  (fun _ _ _ _=>Ke (n:=2) K (by rfl) rfl (je (dS (i:=0) ndPf rfl (Or.inl rfl)) (je (dS (i:=1) ndPf rfl (Or.inl rfl)) sh))) (fun _ _ _ _=>kT)
  (fun _ _ _ _=>d9 (aq (d9 (aq (bR (mT K (by rfl)) (pv 1) au (by intro _ _;rfl)) (aq (bR (mT K (by rfl)) (pv 1) au (by intro _ _;rfl)) (aq (B9 yF au) (aq (pv 0) ai)))))
   (aq (bR (mT K (by rfl)) (pv 1) au (by intro _ _;rfl)) (aq (bR (mT K (by rfl)) (pv 1) au (by intro _ _;rfl)) (aq (bR (mT K (by rfl)) (pv 1) au (by intro _ _;rfl)) (aq (bR (mT K (by rfl)) (pv 1) au (by intro _ _;rfl)) ai)))))))),?_}
 have big:=eD;have bF:=aO ps;refine gk ?_;refine BU (K:=K) (a:=sl) (xs:=V) rfl (SqL.of M) (fun i ys G=>ys.length=i/\aY H G/\∀j y e,ys[j]?=some y->es[j]?=some e->hZ G y (atP e j)) {rfl,aY.refl _,fun j y e h=>by simp at h} ?_ ?_ ?_
 ·rintro i ys G hi ⟨h1,h2,_⟩;exact{SqL.of (h2 _ _ M),by omega}
 ·rintro i x t ys G hi ⟨h1,h2,J⟩ ht;obtain⟨e,g,Y,rfl,bI⟩:=oj ps hi;have O:=aH ht (.tup [.int i,.ref Y]);have hq:=O _ _ (h2 _ _ bI);refine{t,_,rfl,SqT.of ah,rfl,_,_,rfl,_,_,rfl,rfl,?_};refine{rfl,?_};unfold xu;refine iA ?_;refine{_,rfl,Y,_,_,_,rfl,rfl,SqT.of hq,rfl,_,rfl,Y,_,_,_,rfl,rfl,SqT.of hq,rfl,_,rfl,_,rfl,(by show 4<=aB;decide),fun kt I=>?_};have sk:=aH I (.tup [.int e.t,.int e.r,.int (-1),.int i]);have Z:=sk _ _ hq;refine{_,rfl,Y,_,_,_,rfl,rfl,SqT.of Z,rfl,_,rfl,Y,_,_,_,rfl,rfl,SqT.of Z,rfl,_,rfl,Y,_,_,_,rfl,rfl,SqT.of Z,rfl,_,rfl,Y,_,_,_,rfl,rfl,SqT.of Z,rfl,(by show 5<=aB;decide),fun et z=>?_};have se:=aH z (.tup [.ref kt,.int e.to,.str e.sg,.int e.a,.int e.b]);have sA:=(O.trans sk).trans se;refine{by rw[ax,h1];rfl,h2.trans sA,fun j y e' hy W=>?_}
  rcases jf j ys.length with lt|ge
  ·rw[eM lt]at hy;exact (J j y e' hy W).same sA
  ·rw[cP ge]at hy;have ej:j=i:=by
    by_cases c:j-ys.length=0
    ·omega
    ·rw[List.getElem?_cons,if_neg c]at hy;simp at hy
   subst ej;rw[h1,jZ]at hy
   cases hy;rw[g]at W
   cases W;exact{et,kt,rfl,ah,se _ _ ah}
 ·rintro ys G ⟨h1,h2,J⟩ l hl;have U:=aH hl (.lst ys);exact k _ l ys (h2.trans U) (none_of h2 hl) ah (by omega) fun i y e hy g=>(J i y e hy g).same U
inductive NU(vs:List V)(H:Hp)(Q:VK)(_e:XK):Prop where
 |mk(q:aa)(v:V)(_:vs=[.ref q,v])(_:H q=some (.lst []))(_:Q (.int 0) H):NU vs H Q _e
inductive NV(vs:List V)(H:Hp)(Q:VK)(_e:XK):Prop where
 |mk(q:aa)(v:V)(_:vs=[.ref q,v])(_:H q=some (.lst []))(_:Q .non (upd H q (.lst [v]))):NV vs H Q _e
theorem yj:bO ["falling","thing","low","high","middle"] ["falling","thing"] (aN oQ):={}
theorem scPic:bO ["falling","thing"] ["falling","thing"] (aN qj):={}
def HN(r e s:V):List (Str×V):=cJ "states" s (cJ "ending" e (cJ "records" r []))
structure BkT(K:ae)(mg:Str->Option af)(CB:aa):Prop where
 cl:Cls K CB
 nR:eI K CB "records"
 nE:eI K CB "ending"
 nS:eI K CB "states"
 m:mg "Book"=some (.ref CB)
inductive LK(CB:aa)(vs:List V)(H:Hp)(Q:VK)(_e:XK):Prop where
 |mk(b dx:aa)(r e s:V)(_:vs=[.ref b,r,e,s])(_:H b=some (.ins CB dx []))(_:∀G,G b=some (.ins CB dx (HN r e s))->But b H G->Q .non G):LK CB vs H Q _e
def NW(CB:aa):Sp:=fun vs H Q Z=>LK CB vs H Q Z
theorem scBk:bO ["self","records","ending","states"] ["self","records","ending","states"] (aN qm):={}
theorem HP(F:Fun K "__init__" "Book.__init__" qm f fd)(T:BkT K mg CB):bC P w K mg base CX0 1 f fd ["self","records","ending","states"] (NW CB):=by
 refine F.ok scBk (fun vs H Q E h=>?_) (fun Y A outer s H vs Q E hr h=>?_)
 ·obtain⟨b,dx,r,e,s',rfl,_⟩:=h;rfl
 obtain⟨b,dx,r,e,s',rfl,hb,k⟩:=h;refine{_,aj (eP (pv 0) (pv 1) rfl) (aj (eP (pv 0) (pv 2) rfl) (aD (eP (pv 0) (pv 3) rfl))),?_};have Z:=hJ "records" r [];have W:=hJ "ending" e (cJ "records" r []);simp only[cw]at Z;refine{_,rfl,_,rfl,b,CB,dx,[],rfl,hb,T.cl,T.nR,(by show 0<1000;decide),_,rfl,_,rfl,b,CB,dx,_,rfl,ah,T.cl,T.nE,(by omega),_,rfl,_,rfl,b,CB,dx,_,rfl,ah,T.cl,T.nS,(by omega),?_};exact k _ ah (((But.upd b H _).trans (But.upd b _ _)).trans (But.upd b _ _))
theorem NX(r e s:V):(HN r e s).lookup ("records":Str)=some r:=rfl
theorem bk_e(r e s:V):(HN r e s).lookup ("ending":Str)=some e:=rfl
def qA(wd:Str):Sp:=fun vs H Q _=>∃a,vs=[a]/\Q (.str wd) H
theorem EM:bO ["self"] ["self"] (aN m8):={}
theorem lU(F:Fun K "word" "Nought.word" m8 f fd):qf P w K mg base CX0 1 f fd ["self"] (qA "nought"):=by
 refine F.okH EM (fun vs H Q E h=>?_) (fun Z A outer s H vs Q E h=>?_)
 ·obtain⟨a,rfl,_⟩:=h;rfl
 obtain⟨a,rfl,q⟩:=h;exact{_,aD (bQ cg),q}
end
mutual
def Dd.toOk(m:Int):Dd->Prop
 |.send to _ _ _ _ _=>0<=to/\to<m
 |.pull _ _ o=>o.toOk m
 |.ife _ t e=>t.toOk m/\e.toOk m
 |_=>True
def Ds.toOk(m:Int):Ds->Prop
 |.nil=>True
 |.cons d r=>d.toOk m/\r.toOk m
end
def ddz:Nat->Nat
 |0=>1
 |n+1=>1+6*ddz n
structure MD where
 nm:Str
 bs:List Str
 qs:List Str
 ds:List Int
 hs:List (Str×Ds)
 ps:List (Str×Int)
def BV(H:Hp)(v:V)(M:MD):Prop:=∃(t bl ql:aa) (Y U W:V) (Z:List V),v=.ref t/\H t=some (.tup [Y,.ref bl,.ref ql,U,W])/\H bl=some (.lst Z)/\gU H M.ps Z/\H ql=some (.lst (M.qs.map V.str))
structure MoI(m:Int)(H:Hp)(v:V)(M:MD):Prop where
 ma:wK M.bs M.qs M.ds M.hs H v
 fs:BV H v M
 kb:M.ps.map (·.1)=M.bs
 nb:M.bs.Nodup
 nq:M.qs.Nodup
 lb:M.bs.length<=9
 lq:M.qs.length<=9
 ld:M.ds.length<=100
 lh:M.hs.length<=9
 wb:∀q∈M.ps,Wo q.2
 hk:∀q∈M.hs,q.2.toOk m/\q.2.deep<=4/\q.2.size<=3*ddz 4
theorem BV.same{H H':Hp}(s:aY H H'){v:V}{M:MD}(h:BV H v M):BV H' v M:=by
 obtain⟨t,bl,ql,Z,O,W,Y,e,h1,h2,U,J⟩:=h;exact{t,bl,ql,Z,O,W,Y,e,s _ _ h1,s _ _ h2,U.same s,s _ _ J}
theorem MoI.same{m:Int}{H H':Hp}(s:aY H H'){v:V}{M:MD}(h:MoI m H v M):MoI m H' v M:=
 {h.ma.same s,h.fs.same s,h.kb,h.nb,h.nq,h.lb,h.lq,h.ld,h.lh,h.wb,h.hk}
def zh(m:Int)(H:Hp)(Z:aa)(Ms:List MD):Prop:=∃xs,H Z=some (.lst xs)/\aJ (MoI m H) xs Ms
theorem zh.same{m:Int}{H H':Hp}(s:aY H H'){Z:aa}{Ms:List MD}(h:zh m H Z Ms):zh m H' Z Ms:=by
 obtain⟨xs,h1,h2⟩:=h;exact{xs,s _ _ h1,Paired.mono (fun _ _ z=>z.same s) h2}
abbrev qB(zs:List (V×List Int)):Prop:=zs.Pairwise (fun a b=>HT.lexLt b.2 a.2=true)
theorem qB.put{zs:List (V×List Int)}{x:V×List Int}{i:Nat}(h:qB zs)(h1:∀(j:Nat) z,j<i->zs[j]?=some z->HT.lexLt x.2 z.2=true)(h2:∀(j:Nat) z,i<=j->zs[j]?=some z->HT.lexLt z.2 x.2=true):qB (zs.take i++x::zs.drop i):=by
 have a1:∀a∈zs.take i,HT.lexLt x.2 a.2=true:=fun a ha=>by
  obtain⟨j,Z⟩:=dH ha;have lt:j<(zs.take i).length:=(aF.mp Z).1;rw[cM]at lt;rw[zL (by omega)]at Z;exact h1 j a (by omega) Z
 have a2:∀a∈zs.drop i,HT.lexLt a.2 x.2=true:=fun a ha=>by
  obtain⟨j,Z⟩:=dH ha;rw[Fg]at Z;exact h2 (i+j) a (by omega) Z
 have hh:qB (zs.take i++zs.drop i):=by
  rw[qS];exact h
 obtain⟨Y,p2,W⟩:=fc.mp hh;refine fc.mpr {Y,gj.mpr {fun b hb=>a2 b hb,p2},fun a ha b hb=>?_}
 rcases ar.mp hb with z|z
 ·rw[z];exact a1 a ha
 ·exact W a ha b z
theorem qB.at_{zs:List (V×List Int)}(h:qB zs){i j:Nat}(lt:i<j){y z:V×List Int}(hi:zs[i]?=some y)(Z:zs[j]?=some z):HT.lexLt z.2 y.2=true:=by
 obtain⟨Y,e1⟩:=aF.mp hi;obtain⟨U,W⟩:=aF.mp Z;have:=dC.mp h i j Y U lt;rw[e1,W]at this;exact this
section
variable{P:aK}{w:bD}{K:ae}{mg:Str->Option af}{base:cB}{f fP:aa}{fd fdP:bU}
inductive HQ(vs:List V)(H:Hp)(Q:VK)(_e:XK):Prop where
 |mk(q b:aa)(zs:List (V×List Int))(n:List Int)(_:vs=[.ref q,.ref b])(_:H q=some (.lst (zs.map (·.1))))(_:(∀z∈zs,BH H z))(_:qB zs)(_:BH H (.ref b,n))(_:n∉zs.map (·.2))(_:zs.length<=10000000)(_:∀i:Nat,i<=zs.length->qB (zs.take i++(V.ref b,n)::zs.drop i)->Q (.int i) H):HQ vs H Q _e
def LL:Sp:=fun vs H Q Z=>HQ vs H Q Z
theorem NY(D:Df K mg "place_in" oQ ["falling","thing"] f fd)(B:Bl mg):bC P w K mg base CX0 1 f fd ["falling","thing"] LL:=by
 refine D.F.ok yj (fun vs H Q E h=>?_) (fun cx A outer s H vs Q E hr h=>?_)
 ·obtain⟨q,b,zs,n,rfl,_⟩:=h;rfl
 obtain⟨q,b,zs,n,rfl,hq,hz,hf,hb,nn,hl,k⟩:=h;have hu:=mC hr;obtain⟨b0,kb,rb,eb,da,W⟩:=hb
 cases eb;refine{_,aj (bE (i:=2) yj.nd rfl (Or.inl rfl) au)
  (aj (bE (i:=3) yj.nd rfl (Or.inl rfl) (cO ic (by rfl) B.len cb (aq (pv 0) ai)))
  (aj (vR cY (bN rj (pv 2) (pv 3) (bY _))
   (aj (bE (i:=4) yj.nd rfl (Or.inl rfl) (cL Jg (cL gK (pv 2) (pv 3)) au))
   (aD (cW (bN (Np hu) (bR dB (pv 0) (pv 4) (fun _ _=>rfl)) (pv 1) (bY _))
    (aD (bE (i:=2) yj.nd rfl (Or.inl rfl) (cL gK (pv 4) au)))
    (aD (bE (i:=3) yj.nd rfl (Or.inl rfl) (pv 4)))))))
  (aD (bQ (pv 2))))),?_}
 refine{_,rfl,q,_,rfl,.inl (SqL.of hq),?_};refine zX (fun σ H2=>∃(lo hi:Nat) (m:Option V),σ=[some (.ref q),some (.ref b),some (.int lo),some (.int hi),m]/\H2=H/\lo<=hi/\hi<=zs.length /\
   (∀(j:Nat) (z:V×List Int),j<lo->zs[j]?=some z->HT.lexLt n z.2=true)/\∀(j:Nat) (z:V×List Int),hi<=j->zs[j]?=some z->HT.lexLt n z.2=false)
  (fun σ _=>match σ with | [_,_,some (.int lo),some (.int hi),_]=>(hi-lo).toNat|_=>0) ?_ ?_ ?_
 ·refine{0,zs.length,none,?_,rfl,bV _,ay _,fun j z h=>absurd h (gD _),fun j z h e=>?_}
  ·rw[av];rfl
  ·rw[eU (by omega)]at e
   cases e
 ·rintro σ H2 ⟨lo,hi,m,rfl,rfl,h1,h2,h3,h4⟩;refine{_,rfl,_,rfl,_,_,rfl,rfl,_,rfl,?_};refine gH (fun c=>?_) (fun c=>?_)
  ·have c:lo<hi:=by
    have z:=of_decide_eq_true c;omega
   refine{_,rfl,_,rfl,_,_,rfl,rfl,_,_,rfl,rfl,{by decide,by decide},?_};have em:((lo:Int)+(hi:Int))/2=(((lo+hi)/2:Nat):Int):=by omega
   have lm:(lo+hi)/2<zs.length:=by omega
   obtain⟨z,Z⟩:∃z,zs[(lo+hi)/2]?=some z:={_,aE lm};have mz:=cA Z;obtain⟨az,kz,rz,ez,Y,O⟩:=hz z mz;have ea:(zs.map (·.1))[(lo+hi)/2]?=some (.ref az):=by rw[cC,Z,GJ,ez]
   have nz:z.2≠n:=fun y=>nn (by rw[<- y];exact jj mz);refine{_,rfl,_,rfl,q,_,_,_,rfl,rfl,SqL.of hq,(by rw[em];exact jD ea),_,rfl,az,b,kz,kb,z.2,n,rz,rb,rfl,rfl,Y,da,O,W,nz,_,rfl,?_};refine gH (fun g=>?_) (fun g=>?_)
   ·refine{_,rfl,_,_,rfl,rfl,{(lo+hi)/2+1,hi,some (.int (((lo:Int)+(hi:Int))/2)),?_,rfl,by omega,h2,fun j y J e=>?_,h4},?_}
    ·have U:(((lo+hi)/2+1:Nat):Int)=((lo:Int)+(hi:Int))/2+1:=by omega
     rw[U];rfl
    ·by_cases M:j=(lo+hi)/2
     ·rw[M,Z]at e
      cases e;exact g
     ·exact HT.lx_trans g (hf.at_ (show j<(lo+hi)/2 by omega) e Z)
    ·show ((hi:Int)-(((lo:Int)+(hi:Int))/2+1)).toNat<((hi:Int)-(lo:Int)).toNat;omega
   ·refine{_,rfl,{lo,(lo+hi)/2,some (.int (((lo:Int)+(hi:Int))/2)),?_,rfl,by omega,by omega,h3,fun j y J e=>?_},?_}
    ·rw[<- em];rfl
    ·have g':HT.lexLt n z.2=false:=by
      cases e':HT.lexLt n z.2 with
      |false=>rfl
      |true=>exact absurd e' g
     by_cases M:j=(lo+hi)/2
     ·rw[M,Z]at e
      cases e;exact g'
     ·have z1:=hf.at_ (show (lo+hi)/2<j by omega) Z e
      cases e':HT.lexLt n y.2 with
      |false=>rfl
      |true=>
       have z2:=HT.lx_trans e' z1;rw[g']at z2
       cases z2
    ·show ((((lo:Int)+(hi:Int))/2)-(lo:Int)).toNat<((hi:Int)-(lo:Int)).toNat;omega
  ·have e:lo=hi:=by
    have z:¬((lo:Int)<(hi:Int)):=fun z=>c (decide_eq_true z);omega
   subst e;refine{_,rfl,k lo h2 (hf.put h3 fun j z J e=>?_)};exact HT.lx_of_not (h4 j z J e) fun y=>nn (by
    have y:n=z.2:=y;rw[y];exact jj (cA e))
 ·rintro σ H2 Q1 Q2 I h;obtain⟨a1,e1,a2,U,i,j,e3,e4,b',e5,h⟩:=h;exact{a1,e1,a2,U,i,j,e3,e4,b',e5,I _ _ h}
inductive HR(vs:List V)(H:Hp)(Q:VK)(_e:XK):Prop where
 |mk(q b:aa)(zs:List (V×List Int))(n:List Int)(_:vs=[.ref q,.ref b])(_:H q=some (.lst (zs.map (·.1))))(_:(∀z∈zs,BH H z))(_:qB zs)(_:BH H (.ref b,n))(_:n∉zs.map (·.2))(_:zs.length<=10000000)(_:∀zs':List (V×List Int),zs'.Perm ((V.ref b,n)::zs)->qB zs'->Q .non (upd H q (.lst (zs'.map (·.1))))):HR vs H Q _e
def AD:Sp:=fun vs H Q Z=>HR vs H Q Z
theorem uj(D:Df K mg "put_in" qj ["falling","thing"] f fd)(Z:Df K mg "place_in" oQ ["falling","thing"] fP fdP)(B:Bl mg):bC P w K mg base CX0 2 f fd ["falling","thing"] AD:=by
 have O:bC P w K mg base CX0 1 fP fdP ["falling","thing"] LL:=NY Z B;refine D.F.ok scPic (fun vs H Q E h=>?_) (fun W A outer s H vs Q E hr h=>?_)
 ·obtain⟨q,b,zs,n,rfl,_⟩:=h;rfl
 obtain⟨q,b,zs,n,rfl,hq,U,M,hb,nn,hl,k⟩:=h;refine{_,aD (eR (pz cD PySem.F.slot_list_insert PySem.F.type_list_insert Ew (pv 0) (aq (aM O hr rfl Z.m Z.F.kp Z.b .nil bh (aq (pv 0) (aq (pv 1) ai))) (aq (pv 1) ai)))),?_};have sl:10000000<aB:=by decide
 refine{_,rfl,.inl {rfl,_,SqL.of hq},_,rfl,_,rfl,q,b,zs,n,rfl,hq,U,M,hb,nn,hl,fun i hi Y=>{_,rfl,q,_,i,.ref b,rfl,rfl,hq,by rw[av];exact hi,by rw[av];omega,?_}};have z:=k (zs.take i++(V.ref b,n)::zs.drop i) ?_ Y
 ·rw[cu,cm,NO,List.map_drop]at z;exact z
 ·refine vI.trans ?_;rw[qS]
end
structure Sta where
 bx:List (Str×Int)
 qu:List (Str×List Int)
 dr:Nat
 se:Int
def Sta.w(s:Sta):Wk:=w0 s.bx s.qu s.dr s.se
structure Rec where
 h:Ev
 wb:List (Str×Int)
 wq:List (Str×List Int)
 out:List Ev
inductive Stp where
 |fin(h:Ev)
 |flt(e:Flt)(h:Ev)
inductive End where
 |empty
 |cut
 |stp(s:Stp)
structure RS where
 sts:List Sta
 pd:List Ev
 re:Option Ev
 sp:Option Stp
def Ev.key(e:Ev):List Int:=[e.t,e.r,e.fr,e.c]
def jQ(x:Ev):List Ev->List Ev
 | []=>[x]
 |y::ys=>if HT.lexLt x.key y.key=true then y::jQ x ys else x::y::ys
def lV(xs pd:List Ev):List Ev:=xs.foldl (fun p e=>jQ e p) pd
abbrev kR(es:List Ev):Prop:=es.Pairwise (fun a b=>HT.lexLt b.key a.key=true)
def gz(r:RS)(left:Int):Option End:=match r.sp with
 |some s=>some (.stp s)
 |none=>if r.pd.isEmpty=true then some .empty else if left<=0 then some .cut else none
def d8(Ms:List MD)(r:RS):RS×List Rec:=match r.pd.getLast? with
 |none=>(r,[])
 |some h=>match Ms[h.to.toNat]?,r.sts[h.to.toNat]? with
  |some M,some s=>(match doS h M.ds (jJ M.hs h.sg) s.w with
   |.error e=>({r with pd:=r.pd.dropLast,sp:=some (.flt e h)},[])
   |.ok w=>({r.sts.set h.to.toNat ⟨w.bx,w.qu,w.dr,w.se⟩,lV w.out r.pd.dropLast,some h,if w.en=true then some (.fin h) else none},[{h,wrB M.bs w,wrQ M.qs w,w.out}]))
  |_,_=>(r,[])
def itR(Ms:List MD)(r:RS):Nat->RS×List Rec
 |0=>(r,[])
 |n+1=>((d8 Ms (itR Ms r n).1).1,(itR Ms r n).2++(d8 Ms (itR Ms r n).1).2)
theorem gJ(x:Ev):∀ys:List Ev,(jQ x ys).Perm (x::ys)
 | []=>iB _
 |y::ys=>by
  unfold jQ
  split
  ·exact ((gJ x ys).cons y).trans (List.Perm.swap x y ys)
  ·exact iB _
theorem eG:∀(xs pd:List Ev),(lV xs pd).Perm (xs++pd)
 | [],pd=>iB _
 |x::xs,pd=>by
  show (lV xs (jQ x pd)).Perm _;refine (eG xs (jQ x pd)).trans ?_;refine ((iB xs).append (gJ x pd)).trans ?_;exact vI
theorem kX{x:Ev}:∀{ys:List Ev},kR ys->(∀y∈ys,x.key≠y.key)->kR (jQ x ys)
 | [],_,_=>jG _ _
 |y::ys,h,n=>by
  obtain⟨h1,h2⟩:=gj.mp h;unfold jQ
  by_cases c:HT.lexLt x.key y.key=true
  ·rw[if_pos c];refine gj.mpr {fun z Z=>?_,kX h2 fun z Z=>n z (ag _ Z)}
   rcases ar.mp ((gJ x ys).mem_iff.mp Z) with e|e
   ·rw[e];exact c
   ·exact h1 z e
  ·rw[if_neg c];have lt:HT.lexLt y.key x.key=true:=HT.lx_of_not (by
    cases e:HT.lexLt x.key y.key with
    |false=>rfl
    |true=>exact absurd e c) (n y aC)
   refine gj.mpr {fun z Z=>?_,h}
   rcases ar.mp Z with e|e
   ·rw[e];exact lt
   ·exact HT.lx_trans (h1 z e) lt
theorem uk:∀{xs ys:List Ev},kR xs->kR ys->xs.Perm ys->xs=ys
 | [],ys,_,_,p=>(List.nil_perm.mp p).symm ▸ rfl
 |x::xs,[],_,_,p=>absurd p (by intro z;have:=z.length_eq;simp at this)
 |x::xs,y::ys,h,k,p=>by
  obtain⟨h1,h2⟩:=gj.mp h;obtain⟨k1,k2⟩:=gj.mp k;have e:x=y:=by
   rcases ar.mp (p.mem_iff.mp (aC (a:=x) (l:=xs))) with z|z
   ·exact z
   ·rcases ar.mp (p.mem_iff.mpr (aC (a:=y) (l:=ys))) with q|q
    ·exact q.symm
    ·have a:=k1 x z;have b:=HT.lx_asym (h1 y q);rw[a]at b
     cases b
  subst e;rw[uk h2 k2 ((List.perm_cons x).mp p)]
structure LM(m:Int)(h:Ev)(se se':Int)(e:Ev):Prop where
 fr:e.fr=h.to
 c0:se<=e.c
 c1:e.c<se'
 t0:h.t<e.t
 t1:e.t<=10^12
 to0:0<=e.to
 to1:e.to<m
structure News(m:Int)(h:Ev)(n:Nat)(w w':Wk):Prop where
 se:w.se<=w'.se
 ex:∃new,w'.out=w.out++new/\new.length<=n/\(∀e∈new,LM m h w.se w'.se e)/\new.Pairwise (fun a b=>a.c<b.c)
theorem News.none{m:Int}{h:Ev}{n:Nat}{w Z:Wk}(e1:Z.se=w.se)(W:Z.out=w.out):News m h n w Z:=
 {by rw[e1];exact xk _,[],by rw[W,cq],bV _,(fun e Y=>by cases Y),List.Pairwise.nil}
theorem News.trans{m:Int}{h:Ev}{n1 n2:Nat}{w U W:Wk}(a:News m h n1 w U)(b:News m h n2 U W):News m h (n1+n2) w W:=by
 obtain⟨M,x1,e1,g,O,D⟩:=a;obtain⟨s2,J,I,l2,V,p2⟩:=b;refine{Int.le_trans M s2,x1++J,by rw[I,e1,g9],by rw[ax];omega,fun e H=>?_,fc.mpr {D,p2,fun a ha b hb=>?_}}
 ·rcases bM.mp H with z|z
  ·obtain⟨f,c0,c1,t0,t1,Z,Y⟩:=O e z;exact{f,c0,by omega,t0,t1,Z,Y}
  ·obtain⟨f,c0,c1,t0,t1,Z,Y⟩:=V e z;exact{f,by omega,c1,t0,t1,Z,Y}
 ·have:=(O a ha).c1;have:=(V b hb).c0;omega
theorem News.le{m:Int}{h:Ev}{n1 n2:Nat}{w Z:Wk}(a:News m h n1 w Z)(l:n1<=n2):News m h n2 w Z:=by
 obtain⟨Y,x1,e1,U,V,W⟩:=a;exact{Y,x1,e1,by omega,V,W}
theorem News.from{m:Int}{h:Ev}{n:Nat}{w0 w Y:Wk}(a:News m h n w Y)(e1:w.se=w0.se)(U:w.out=w0.out):News m h n w0 Y:=by
 obtain⟨Z,x1,f1,V,W,O⟩:=a;rw[e1]at Z W;exact{Z,x1,by rw[f1,U],V,W,O}
theorem rO{h:Ev}{w Z:Wk}{f:Fm}{k:Wk->Int->Except Flt Wk}(e:rck h w f k=.ok Z):∃n,k {w with rk:=w.rk++[f]} n=.ok Z:=by
 unfold rck at e
 split at e
 ·exact{_,e}
 ·cases e
 ·cases e
mutual
theorem HS{m:Int}{h:Ev}{ds:List Int}:∀(D:Dd) (w Z:Wk),D.toOk m->doD h ds D w=.ok Z->News m h D.size w Z
 |.put x f,w,Z,_,e=>by
  simp only[doD]at e;obtain⟨n,e⟩:=rO e
  cases e;exact News.none rfl rfl
 |.push q f,w,Z,_,e=>by
  simp only[doD]at e;obtain⟨n,e⟩:=rO e;try dsimp only at e
  split at e
  ·cases e
  ·cases e;exact News.none rfl rfl
 |.pull q x o,w,Z,to,e=>by
  simp only[doD]at e;simp only[Dd.toOk]at to
  split at e
  ·exact ((oo o _ _ to e).le (gs _)).from rfl rfl
  ·cases e;exact News.none rfl rfl
 |.draw x f,w,Z,_,e=>by
  simp only[doD]at e;obtain⟨n,e⟩:=rO e;try dsimp only at e
  split at e
  ·cases e
  ·split at e
   ·cases e
   ·cases e;exact News.none rfl rfl
 |.send to sg sp rk a b,w,Z,Y,e=>by
  simp only[doD]at e;simp only[Dd.toOk]at Y;obtain⟨n,e⟩:=rO e;try dsimp only at e
  split at e
  ·cases e
  ·rename_i c
   obtain⟨x,e⟩:=rO e;obtain⟨y,e⟩:=rO e;try dsimp only at e
   split at e
   ·cases e
   ·rename_i c2
    cases e;refine{?_,[_],rfl,ay _,fun q hq=>?_,jG _ _}
    ·show w.se<=w.se+1;omega
    ·rw[aA.mp hq];exact{rfl,xk _,(by show w.se<w.se+1;omega),(by show h.t<h.t+n;omega),(by show h.t+n<=10^12;omega),Y.1,Y.2}
 |.ife f t e',w,Z,to,e=>by
  simp only[doD]at e;simp only[Dd.toOk]at to;obtain⟨n,e⟩:=rO e;try dsimp only at e
  simp only[Dd.size]
  split at e
  ·exact ((oo e' _ _ to.2 e).le (by omega)).from rfl rfl
  ·exact ((oo t _ _ to.1 e).le (by omega)).from rfl rfl
 |.fin,w,Z,_,e=>by
  simp only[doD]at e
  cases e;exact News.none rfl rfl
theorem oo{m:Int}{h:Ev}{ds:List Int}:∀(D:Ds) (w Z:Wk),D.toOk m->doS h ds D w=.ok Z->News m h D.size w Z
 |.nil,w,Z,_,e=>by
  simp only[doS]at e
  cases e;exact News.none rfl rfl
 |.cons d r,w,Z,to,e=>by
  simp only[doS]at e;simp only[Ds.toOk]at to;simp only[Ds.size]
  split at e
  ·rename_i w1 e1
   exact (HS d _ _ to.1 e1).trans (oo r _ _ to.2 e)
  ·cases e
end
structure q8(m:Nat)(e:Ev):Prop where
 to0:0<=e.to
 to1:e.to<m
 wt:Wo e.t
 wa:Wo e.a
 wb:Wo e.b
structure ROk(m:Nat)(r:RS):Prop where
 len:r.sts.length=m
 fall:kR r.pd
 ev:∀e∈r.pd,q8 m e
 cn:∀e∈r.pd,e.fr=-1\/∃(i:Nat) (s:Sta),e.fr=(i:Int)/\r.sts[i]?=some s/\e.c<s.se
theorem oq{pd:List Ev}{h:Ev}(f:kR (pd++[h])):kR pd/\∀e∈pd,HT.lexLt h.key e.key=true:=by
 obtain⟨f1,_,Y⟩:=fc.mp f;exact{f1,fun e Z=>Y e Z h (aA.mpr rfl)}
theorem wN{pd:List Ev}{h:Ev}(e:pd.getLast?=some h):pd=pd.dropLast++[h]:=by
 obtain⟨ys,rfl⟩:=List.getLast?_eq_some_iff.mp e;rw[rC]
theorem key_t{a b:Ev}(h:a.t<b.t):HT.lexLt a.key b.key=true:=by
 unfold Ev.key;rw[HT.lexLt_cons,if_neg (by omega)];exact decide_eq_true h
theorem nv{a b:Ev}(h:a.fr≠b.fr\/a.c≠b.c):a.key≠b.key:=fun z=>by
 unfold Ev.key at z;simp only[List.cons.injEq]at z
 rcases h with h|h
 ·exact h z.2.2.1
 ·exact h z.2.2.2.1
theorem kY:∀{xs pd:List Ev},kR pd->(∀x∈xs,∀y∈pd,x.key≠y.key)->xs.Pairwise (fun a b=>a.key≠b.key)->kR (lV xs pd)
 | [],_,h,_,_=>h
 |x::xs,pd,h,n,p=>by
  obtain⟨Y,p2⟩:=gj.mp p;refine kY (xs:=xs) (kX h fun y hy=>n x aC y hy) (fun z Z y hy=>?_) p2
  rcases ar.mp ((gJ x pd).mem_iff.mp hy) with e|e
  ·rw[e];exact fun q=>Y z Z q.symm
  ·exact n z (ag _ Z) y e
structure Did(Ms:List MD)(r:RS)(h:Ev)(M:MD)(s:Sta):Prop where
 pd:r.pd=r.pd.dropLast++[h]
 hM:Ms[h.to.toNat]?=some M
 hs:r.sts[h.to.toNat]?=some s
theorem qC{Ms:List MD}{r:RS}{h:Ev}{M:MD}{s:Sta}(d:Did Ms r h M s){e:Flt}(q:doS h M.ds (jJ M.hs h.sg) s.w=.error e):d8 Ms r=({r with pd:=r.pd.dropLast,sp:=some (.flt e h)},[]):=by
 have l:r.pd.getLast?=some h:=by
  rw[d.pd,ff]
 unfold d8;rw[l];dsimp only;rw[d.hM,d.hs];dsimp only;rw[q]
theorem sY{Ms:List MD}{r:RS}{h:Ev}{M:MD}{s:Sta}(d:Did Ms r h M s){w:Wk}(q:doS h M.ds (jJ M.hs h.sg) s.w=.ok w):d8 Ms r=({r.sts.set h.to.toNat ⟨w.bx,w.qu,w.dr,w.se⟩,lV w.out r.pd.dropLast,some h,if w.en=true then some (.fin h) else none},[{h,wrB M.bs w,wrQ M.qs w,w.out}]):=by
 have l:r.pd.getLast?=some h:=by
  rw[d.pd,ff]
 unfold d8;rw[l];dsimp only;rw[d.hM,d.hs];dsimp only;rw[q]
theorem wQ{m:Nat}{Ms:List MD}{r:RS}{h:Ev}{M:MD}{s:Sta}(k:ROk m r)(d:Did Ms r h M s){n:Nat}{w:Wk}(N:News m h n s.w w):(∀x∈w.out,∀y∈r.pd.dropLast,x.key≠y.key)/\w.out.Pairwise (fun a b=>a.key≠b.key)/\(∀x∈w.out,LM m h s.se w.se x):=by
 obtain⟨U,new,e,J,ho,hp⟩:=N;have e:w.out=new:=e;rw[e];have Z:h∈r.pd:=by
  rw[d.pd];exact aX _ (aA.mpr rfl)
 have h0:=(k.ev h Z).to0;refine{fun x hx y hy=>?_,hp.imp fun z=>nv (.inr (by omega)),ho};have o:=ho x hx;have Y:y∈r.pd:=dW _ hy
 rcases k.cn y Y with z|⟨i,s',I,W,O⟩
 ·refine nv (.inl ?_);rw[o.fr,z];omega
 ·by_cases c:y.fr=h.to
  ·refine nv (.inr ?_);have V:h.to.toNat=i:=by omega
   have:=d.hs;rw[V,W]at this
   cases this;have c0:s.se<=x.c:=o.c0;omega
  ·refine nv (.inl ?_);rw[o.fr];exact fun q=>c q.symm
theorem HU{m:Nat}{Ms:List MD}{r:RS}{h:Ev}{M:MD}{s:Sta}(k:ROk m r)(d:Did Ms r h M s){n:Nat}{w:Wk}(q:doS h M.ds (jJ M.hs h.sg) s.w=.ok w)(N:News m h n s.w w)(wo:∀e∈w.out,Wo e.a/\Wo e.b):ROk m (d8 Ms r).1:=by
 rw[sY d q];obtain⟨n1,n2,n3⟩:=wQ k d N;have f:=k.fall;rw[d.pd]at f;obtain⟨f1,D⟩:=oq f;refine{by rw[Jp];exact k.len,kY f1 n1 n2,fun e Y=>?_,fun e Y=>?_}
 ·rcases bM.mp ((eG _ _).mem_iff.mp Y) with z|z
  ·obtain⟨a,b,c,d',e',O,g'⟩:=n3 e z;have Z:h∈r.pd:=by
    rw[d.pd];exact aX _ (aA.mpr rfl)
   have ht:=(k.ev h Z).wt;have I:(10:Int)^15=1000000000000000:=by decide
   have H:(10:Int)^12=1000000000000:=by decide
   refine{O,g',?_,(wo e z).1,(wo e z).2};unfold Wo at ht |-;omega
  ·exact k.ev e (dW _ z)
 ·have lt:h.to.toNat<r.sts.length:=(aF.mp d.hs).1;have Z:h∈r.pd:=by
   rw[d.pd];exact aX _ (aA.mpr rfl)
  have h0:=(k.ev h Z).to0
  rcases bM.mp ((eG _ _).mem_iff.mp Y) with z|z
  ·obtain⟨a,b,c,_⟩:=n3 e z;refine .inr {h.to.toNat,_,by omega,fV lt,c}
  ·rcases k.cn e (dW _ z) with y|⟨i,s',U,V,W⟩
   ·exact .inl y
   ·by_cases c:h.to.toNat=i
    ·subst c;have es:s=s':=cQ (d.hs.symm.trans V);rw[<- es]at W;refine .inr {_,_,U,fV lt,?_};have J:s.se<=w.se:=N.se;show e.c<w.se;omega
    ·exact .inr {i,s',U,by rw[iV c];exact V,W}
theorem EN{m:Nat}{Ms:List MD}{r:RS}{h:Ev}{M:MD}{s:Sta}(k:ROk m r)(d:Did Ms r h M s){e:Flt}(q:doS h M.ds (jJ M.hs h.sg) s.w=.error e):ROk m (d8 Ms r).1:=by
 rw[qC d q];have f:=k.fall;rw[d.pd]at f;exact{k.len,(oq f).1,fun e Z=>k.ev e (dW _ Z),fun e Z=>k.cn e (dW _ Z)}
structure Ex where
 l:List aa
 b:Hp
def Ex.In(ex:Ex)(a:aa):Prop:=a∈ex.l\/∃o,ex.b a=some o/\∀xs,o≠.tup xs
instance:Membership Addr Ex:={fun ex a=>ex.In a}
def Ex.add(ex:Ex)(a:aa):Ex:={a::ex.l,ex.b}
theorem Ex.here{ex:Ex}{a:aa}:a∈ex.add a:=.inl aC
theorem Ex.more{ex:Ex}{a b:aa}(h:b∈ex):b∈ex.add a:=h.elim (fun z=>.inl (ag _ z)) .inr
theorem Ex.or{ex:Ex}{a b:aa}(h:b∈ex.add a):b=a\/b∈ex:=h.elim (fun z=>(ar.mp z).elim .inl fun y=>.inr (.inl y)) fun z=>.inr (.inr z)
open Classical in
noncomputable def Hid(ex:Ex)(G:Hp):Hp:=fun a=>if a∈ex then none else G a
section
variable{ex:Ex}{G G':Hp}{a:aa}{o:HO}
theorem gO(e:Hid ex G a=some o):a∉ex:=fun m=>by
 unfold Hid at e;rw[if_pos m]at e
 cases e
theorem eA(n:a∉ex):Hid ex G a=G a:=if_neg n
theorem dh:aY (Hid ex G) G:=fun b o e=>by
 rw[eA (gO e)]at e;exact e
theorem gW(m:a∈ex):Hid ex (upd G a o)=Hid ex G:=by
 funext b
 unfold Hid
 by_cases c:b∈ex
 ·rw[if_pos c,if_pos c]
 ·rw[if_neg c,if_neg c,aL fun z=>c (by rw[z];exact m)]
theorem gA(s:aY G G'):aY (Hid ex G) (Hid ex G'):=fun b o e=>by
 rw[eA (gO e)];exact s _ _ (dh _ _ e)
theorem NZ(s:∀b o,G b=some o->b∉ex->G' b=some o):aY (Hid ex G) (Hid ex G'):=fun b o e=>by
 rw[eA (gO e)];exact s _ _ (dh _ _ e) (gO e)
theorem gF{xs:List V}(nt:∀a∈ex,∃o,G a=some o/\∀xs,o≠.tup xs)(h:G a=some (.tup xs)):Hid ex G a=some (.tup xs):=by
 rw[eA fun m=>by
  obtain⟨o,e,n⟩:=nt a m;rw[e]at h
  cases h;exact n _ rfl]
 exact h
theorem qD(n:G a=none):Hid (ex.add a) (upd G a o)=Hid ex G:=by
 funext b
 unfold Hid
 by_cases c:b=a
 ·rw[c,if_pos Ex.here]
  by_cases d:a∈ex
  ·rw[if_pos d]
  ·rw[if_neg d,n]
 ·by_cases d:b∈ex
  ·rw[if_pos d,if_pos (Ex.more d)]
  ·rw[if_neg d,if_neg (fun z=>(Ex.or z).elim c d),aL c]
theorem AE:aY (Hid (ex.add a) G) (Hid ex G):=fun b o e=>by
 rw[eA fun m=>gO e (Ex.more m)];exact dh _ _ e
end
abbrev BX(h:Ev):HO:=.tup [.int h.t,.int h.r,.int h.fr,.int h.c]
def RcIn(F:Hp)(v:V)(q:Rec):Prop:=∃(W k wl od:aa) (Y Z vs:List V) (qa:List (Str×aa)),v=.ref W/\F W=some (.tup [.ref k,.int q.h.to,.str q.h.sg,.int q.h.a,.int q.h.b,.ref wl,.ref od])/\F k=some (BX q.h) /\
 F wl=some (.lst (Y++Z))/\aJ (zg F) Y q.wb/\aJ (AA F) Z qa/\gE F qa q.wq/\F od=some (.lst vs)/\aJ (hZ F) vs q.out
theorem RcIn.same{F W:Hp}(s:aY F W){v:V}{q:Rec}(h:RcIn F v q):RcIn W v q:=by
 obtain⟨M,k,wl,od,Y,Z,vs,qa,e,h1,h2,I,D,U,J,O,H⟩:=h;exact{M,k,wl,od,Y,Z,vs,qa,e,s _ _ h1,s _ _ h2,s _ _ I,Paired.mono (fun _ _ z=>z.keep fun a xs e=>s _ _ e) D,Paired.mono (fun _ _ z=>z.keep fun a xs e=>s _ _ e) U,J.same s,s _ _ O,Paired.mono (fun _ _ z=>z.same s) H}
def qE:Flt->Str
 |.nought=>"nought"
 |.great=>"great"
 |.full=>"full"
 |.dry=>"dry"
 |.span=>"span"
 |.late=>"late"
def zi(F:Hp)(v:V):Option Ev->Prop
 |none=>v=.non
 |some h=>∃k,v=.ref k/\F k=some (BX h)
def wR(F:Hp)(v:V):Stp->Prop
 |.fin h=>∃t k,v=.ref t/\F t=some (.tup [.str "end",.ref k])/\F k=some (BX h)
 |.flt e h=>∃t k,v=.ref t/\F t=some (.tup [.str "fault",.str (qE e),.ref k])/\F k=some (BX h)
def zj(F:Hp)(v:V):Option Stp->Prop
 |none=>v=.non
 |some s=>wR F v s
def j0(F:Hp)(v:V):End->Prop
 |.empty=>∃t,v=.ref t/\F t=some (.tup [.str "empty"])
 |.cut=>∃t,v=.ref t/\F t=some (.tup [.str "cut"])
 |.stp s=>wR F v s
theorem zi.same{F Z:Hp}(s:aY F Z){v:V}:∀{q:Option Ev},zi F v q->zi Z v q
 |none,h=>h
 |some _,⟨k,e,h⟩=>{k,e,s _ _ h}
theorem wR.same{F Z:Hp}(s:aY F Z){v:V}:∀{q:Stp},wR F v q->wR Z v q
 |.fin _,⟨t,k,e,h1,h2⟩=>{t,k,e,s _ _ h1,s _ _ h2}
 |.flt _ _,⟨t,k,e,h1,h2⟩=>{t,k,e,s _ _ h1,s _ _ h2}
theorem zj.same{F Z:Hp}(s:aY F Z){v:V}:∀{q:Option Stp},zj F v q->zj Z v q
 |none,h=>h
 |some _,h=>wR.same s h
theorem j0.same{F Z:Hp}(s:aY F Z){v:V}:∀{q:End},j0 F v q->j0 Z v q
 |.empty,⟨t,e,h⟩=>{t,e,s _ _ h}
 |.cut,⟨t,e,h⟩=>{t,e,s _ _ h}
 |.stp _,h=>wR.same s h
def ij(m s p r e:V):List (Str×V):=[("model",m),("states",s),("pending",p),("reached",r),("stopped",e)]
structure CoT(K:ae)(mg:Str->Option af)(CC:aa):Prop where
 cl:Cls K CC
 nM:eI K CC "model"
 nS:eI K CC "states"
 nP:eI K CC "pending"
 nR:eI K CC "reached"
 nE:eI K CC "stopped"
 m:mg "Course"=some (.ref CC)
theorem co_m(m s p r e:V):(ij m s p r e).lookup ("model":Str)=some m:=rfl
theorem HV(m s p r e:V):(ij m s p r e).lookup ("states":Str)=some s:=rfl
theorem HW(m s p r e:V):(ij m s p r e).lookup ("pending":Str)=some p:=rfl
theorem N0(m s p r e:V):(ij m s p r e).lookup ("reached":Str)=some r:=rfl
theorem Kf(m s p r e:V):(ij m s p r e).lookup ("stopped":Str)=some e:=rfl
theorem wU(m s p r e:V):(ij m s p r e).length<1000:=by show 5<1000;decide
theorem N1(m s p r e:V):cJ "stopped" e (cJ "reached" r (cJ "pending" p (cJ "states" s (cJ "model" m []))))=ij m s p r e:=rfl
theorem Dc(m s p r e Z:V):cJ "reached" Z (ij m s p r e)=ij m s p Z e:=rfl
theorem zk(m s p r e e':V):cJ "stopped" e' (ij m s p r e)=ij m s p r e':=rfl
theorem wV(m s p r e:V){x:Str}(hx:(["model","states","pending","reached","stopped"]:List Str).contains x=false):(ij m s p r e).lookup x=none:=by
 have z:∀k∈(["model","states","pending","reached","stopped"]:List Str),(x==k)=false:=fun k hk=>beq_eq_false_iff_ne.mpr fun e=>by
  rw[e,kE.mpr hk]at hx
  cases hx
 unfold ij;rw[dQ (z _ (by simp)),dQ (z _ (by simp)),dQ (z _ (by simp)),dQ (z _ (by simp)),dQ (z _ (by simp))];rfl
def vg(CM:aa)(Ms:List MD)(H:Hp)(m:aa):Prop:=∃(dx Z:aa) (fs:List (Str×V)),H m=some (.ins CM dx fs)/\fs.lookup ("machines":Str)=some (.ref Z)/\zh (Ms.length:Int) H Z Ms
theorem vg.same{CM:aa}{Ms:List MD}{H H':Hp}(s:aY H H'){m:aa}(h:vg CM Ms H m):vg CM Ms H' m:=by
 obtain⟨dx,Z,fs,h1,h2,Y⟩:=h;exact{dx,Z,fs,s _ _ h1,h2,Y.same s}
abbrev StA(CS:aa)(F:Hp):aa->Sta->Prop:=fun a s=>jP CS F a s.bx s.qu s.dr s.se
structure iC(CC CS:aa)(Ms:List MD)(Hb:Hp)(ex:Ex)(G:Hp)(co m sl pl:aa)(r:RS):Prop where
 ok:ROk Ms.length r
 sm:∀b o,Hb b=some o->b≠co/\b≠sl/\b≠pl/\G b=some o
 i1:co∈ex
 i2:sl∈ex
 i3:pl∈ex
 n1:co≠sl
 n2:co≠pl
 n3:sl≠pl
 hc:∃dx rv sv,G co=some (.ins CC dx (ij (.ref m) (.ref sl) (.ref pl) rv sv))/\zi (Hid ex G) rv r.re/\zj (Hid ex G) sv r.sp
 hs:∃ss:List aa,G sl=some (.lst (ss.map V.ref))/\aJ (StA CS (Hid ex G)) ss r.sts
 hp:∃ps,G pl=some (.lst ps)/\aJ (hZ (Hid ex G)) ps r.pd
 wk:∀(i:Nat) (M:MD) (s:Sta),Ms[i]?=some M->r.sts[i]?=some s->qx M.bs M.qs s.w
 nt:∀a∈ex,∃o,G a=some o/\∀xs,o≠.tup xs
theorem jP.same'{CS:aa}{H H':Hp}(s:aY H H'){st:aa}{bx:List (Str×Int)}{qu:List (Str×List Int)}{dr:Nat}{se:Int}(h:jP CS H st bx qu dr se):jP CS H' st bx qu dr se:=by
 obtain⟨dx,bd,qd,qa,h1,h2,Y,Z⟩:=h;exact{dx,bd,qd,qa,s _ _ h1,s _ _ h2,s _ _ Y,Z.same s}
section
variable{CC CS:aa}{Ms:List MD}{Hb G G':Hp}{ex:Ex}{co m sl pl:aa}{r:RS}
theorem iC.same(c:iC CC CS Ms Hb ex G co m sl pl r)(s:aY G G'):iC CC CS Ms Hb ex G' co m sl pl r:=by
 obtain⟨dx,M,V,h1,h2,U⟩:=c.hc;obtain⟨O,J,Z⟩:=c.hs;obtain⟨ps,W,Y⟩:=c.hp;have f:=gA (ex:=ex) s;exact{c.ok,fun b o e=>(c.sm b o e).imp id (yk id (yk id (s _ _))),c.i1,c.i2,c.i3,c.n1,c.n2,c.n3,{dx,M,V,s _ _ h1,h2.same f,U.same f},{O,s _ _ J,Paired.mono (fun _ _ z=>jP.same' f z) Z},{ps,s _ _ W,Paired.mono (fun _ _ z=>z.same f) Y},c.wk,fun a ha=>by
  obtain⟨o,e,n⟩:=c.nt a ha;exact{o,s _ _ e,n}}
theorem iC.more(c:iC CC CS Ms Hb ex G co m sl pl r){a:aa}{o:HO}(n:G a=none)(U:∀xs,o≠.tup xs):iC CC CS Ms Hb (ex.add a) (upd G a o) co m sl pl r:=by
 obtain⟨dx,H,O,h1,h2,M⟩:=c.hc;obtain⟨I,Y,W⟩:=c.hs;obtain⟨ps,Z,V⟩:=c.hp;refine{c.ok,?_,Ex.more c.i1,Ex.more c.i2,Ex.more c.i3,c.n1,c.n2,c.n3,{dx,H,O,aT h1 (aw h1 n),?_,?_},{I,aT Y (aw Y n),?_},{ps,aT Z (aw Z n),?_},c.wk,fun b hb=>?_}
 ·exact fun b o e=>(c.sm b o e).imp id (yk id (yk id fun z=>aT z (aw z n)))
 ·rw[qD n];exact h2
 ·rw[qD n];exact M
 ·rw[qD n];exact W
 ·rw[qD n];exact V
 ·rcases Ex.or hb with z|z
  ·rw[z];exact⟨o,ah,U⟩
  ·obtain⟨o',e,J⟩:=c.nt b z;exact{o',aT e (aw e n),J}
theorem iC.less{a:aa}(c:iC CC CS Ms Hb (ex.add a) G co m sl pl r)(a1:co≠a)(a2:sl≠a)(a3:pl≠a):iC CC CS Ms Hb ex G co m sl pl r:=by
 obtain⟨dx,M,V,h1,h2,U⟩:=c.hc;obtain⟨O,J,Z⟩:=c.hs;obtain⟨ps,W,Y⟩:=c.hp;have f:aY (Hid (ex.add a) G) (Hid ex G):=AE;have out:∀{b:aa},b∈ex.add a->b≠a->b∈ex:=fun m n=>(Ex.or m).elim (fun z=>absurd z n) id;exact{c.ok,c.sm,out c.i1 a1,out c.i2 a2,out c.i3 a3,c.n1,c.n2,c.n3,{dx,M,V,h1,h2.same f,U.same f},{O,J,Paired.mono (fun _ _ z=>jP.same' f z) Z},{ps,W,Paired.mono (fun _ _ z=>z.same f) Y},c.wk,fun b hb=>c.nt b (Ex.more hb)}
theorem iC.upd(c:iC CC CS Ms Hb ex G co m sl pl r){a:aa}{o:HO}(ha:a∈ex)(ab:Hb a=none)(a1:co≠a)(a2:sl≠a)(a3:pl≠a)(W:∀xs,o≠.tup xs):iC CC CS Ms Hb ex (L2.upd G a o) co m sl pl r:=by
 obtain⟨dx,I,U,h1,h2,O⟩:=c.hc;obtain⟨J,H,Z⟩:=c.hs;obtain⟨ps,V,Y⟩:=c.hp;refine{c.ok,?_,c.i1,c.i2,c.i3,c.n1,c.n2,c.n3,{dx,I,U,aT h1 a1,?_,?_},{J,aT H a2,?_},{ps,aT V a3,?_},c.wk,fun b hb=>?_}
 ·exact fun b o e=>(c.sm b o e).imp id (yk id (yk id fun z=>aT z (aw e ab)))
 ·rw[gW ha];exact h2
 ·rw[gW ha];exact O
 ·rw[gW ha];exact Z
 ·rw[gW ha];exact Y
 ·by_cases z:b=a
  ·rw[z];exact⟨o,ah,W⟩
  ·obtain⟨o',e,M⟩:=c.nt b hb;exact{o',aT e z,M}
end
theorem Paired.snoc_inv{W Y:Type}{R:W->Y->Prop}:∀{ys:List Y} {xs:List W} {y:Y},aJ R xs (ys++[y])->∃Z x,xs=Z++[x]/\aJ R Z ys/\R x y
 | [],xs,y,p=>by
  cases p with
  |cons a b=>
   cases b;exact{[],_,rfl,.nil,a}
 |z::ys,xs,y,p=>by
  cases p with
  |cons a b=>
   obtain⟨Z,x,e,V,r⟩:=Paired.snoc_inv (ys:=ys) b;exact{_::Z,x,by rw[e];rfl,.cons a V,r}
theorem jw{Y Z:Type}{R:Y->Z->Prop}:∀{xs:List Y} {ys:List Z} {i:Nat} {y:Z},aJ R xs ys->ys[i]?=some y->∃x,xs[i]?=some x/\R x y
 |_,_,i,y,.nil,h=>by simp at h
 |_,_,0,y,.cons a b,h=>by
  simp at h;subst h;exact{_,rfl,a}
 |_,_,i+1,y,.cons a b,h=>by
  obtain⟨x,h1,h2⟩:=jw (i:=i) (y:=y) b (by simpa using h);exact{x,by simpa using h1,h2}
theorem Paired.set{Z Y:Type}{R:Z->Y->Prop}:∀{xs:List Z} {ys:List Y},aJ R xs ys->∀(i:Nat) {x:Z} {y:Y},R x y->aJ R (xs.set i x) (ys.set i y)
 |_,_,.nil,i,x,y,h=>.nil
 |_,_,.cons a b,0,x,y,h=>.cons h b
 |_,_,.cons a b,i+1,x,y,h=>.cons a (Paired.set b i h)
theorem EO{U O:Type}{f:U->O}{xs ys:List O}(p:xs.Perm ys):∀us:List U,us.map f=ys->∃Z:List U,Z.Perm us/\Z.map f=xs:=by
 induction p with
 |nil=>
  intro us e;have:us=[]:=List.map_eq_nil_iff.mp e;subst this;exact{[],iB _,rfl}
 |cons x _ D=>
  intro us e
  cases us with
  |nil=>cases e
  |cons u us=>
   rw[cm]at e;obtain⟨e1,W⟩:=wW e;obtain⟨Z,M,J⟩:=D us W;exact{u::Z,M.cons u,by rw[cm,J,e1]}
 |swap x y l=>
  intro us e
  match us,e with
  |a::b::r,e=>
   rw[cm,cm]at e;obtain⟨e1,e⟩:=wW e;obtain⟨W,e3⟩:=wW e;exact{b::a::r,List.Perm.swap _ _ _,by rw[cm,cm,e1,W,e3]}
 |trans _ _ V Y=>
  intro us e;obtain⟨u1,z,H⟩:=Y us e;obtain⟨u2,p2,I⟩:=V u1 H;exact{u2,p2.trans z,I}
theorem uP{Z Y:Type}{R:Z->Y->Prop}:∀{us:List (Z×Y)},(∀u∈us,R u.1 u.2)->aJ R (us.map (·.1)) (us.map (·.2))
 | [],_=>.nil
 |u::us,h=>.cons (h u aC) (uP fun v hv=>h v (ag _ hv))
theorem wX{Z Y:Type}{R:Z->Y->Prop}{xs:List Z}{ys:List Y}(p:aJ R xs ys):(xs.zip ys).map (·.1)=xs/\(xs.zip ys).map (·.2)=ys/\∀u∈xs.zip ys,R u.1 u.2:=by
 induction p with
 |nil=>exact{rfl,rfl,fun u hu=>by cases hu}
 |cons a _ W=>
  obtain⟨h1,h2,V⟩:=W;refine{by rw[e7,cm,h1],by rw[e7,cm,h2],fun u hu=>?_};rw[e7]at hu
  rcases ar.mp hu with z|z
  ·rw[z];exact a
  ·exact V u z
theorem BY{G:Hp}{v:V}{e:Ev}(h:hZ G v e):BH G (v,e.key):=by
 obtain⟨t,k,e1,h1,h2⟩:=h;exact{t,k,_,e1,h1,h2}
theorem yl{F:Hp}{us:List (V×Ev)}{es:List Ev}{zs:List (V×List Int)}(hu:∀u∈us,hZ F u.1 u.2)(p:zs.Perm (us.map fun u=>(u.1,u.2.key)))(f:qB zs)(q:(us.map (·.2)).Perm es)(M:kR es):∃ps,zs.map (·.1)=ps/\aJ (hZ F) ps es:=by
 obtain⟨Z,U,O⟩:=EO p us rfl;have h:=uP (R:=hZ F) (us:=Z) fun u Y=>hu u (U.mem_iff.mp Y);have W:kR (Z.map (·.2)):=by
  rw[<- O]at f;have J:=jT.mp f;exact jT.mpr J
 rw[uk W M ((U.map _).trans q)]at h;refine{Z.map (·.1),?_,h};rw[<- O,dR];rfl
theorem De{F G:Hp}(s:aY F G){pl:aa}{v:V}{ps:List V}{pd:List Ev}{e:Ev}{Q:VK}{E:XK}(hp:G pl=some (.lst ps))(I:aJ (hZ F) ps pd)(J:kR pd)(hv:hZ F v e)(nw:∀y∈pd,e.key≠y.key)(len:pd.length<=10000000)
  (k:∀Z,aJ (hZ F) Z (jQ e pd)->Q .non (upd G pl (.lst Z))):AD [.ref pl,v] G Q E:=by
 obtain⟨z1,U,M⟩:=wX I;have ln:=aO I;obtain⟨t,kk,rfl,h1,h2⟩:=id hv;refine{pl,t,(ps.zip pd).map fun u=>(u.1,u.2.key),e.key,rfl,?_,fun z D=>?_,?_,(BY hv).imp fun a ⟨k,O,e1,Y,e3⟩=>{k,O,e1,s _ _ Y,s _ _ e3},?_,?_,fun bv p f=>?_}
 ·rw[dR];have:((fun x:V×List Int=>x.1) ∘ fun u:V×Ev=>(u.1,u.2.key))=(fun u:V×Ev=>u.1):=rfl;rw[this,z1];exact hp
 ·obtain⟨u,hu,rfl⟩:=cH.mp D;obtain⟨a,k,O,e1,Y,e3⟩:=BY (M u hu);exact{a,k,O,e1,s _ _ Y,s _ _ e3}
 ·refine jT.mpr ?_;have H:=J;rw[<- U]at H;exact jT.mp H
 ·intro m;obtain⟨x,hx,ex⟩:=cH.mp m;obtain⟨u,hu,rfl⟩:=cH.mp hx;refine nw u.2 ?_ ex.symm;rw[<- U];exact jj hu
 ·rw[av,qq];omega
 ·have g:∀u∈(V.ref t,e)::ps.zip pd,hZ F u.1 u.2:=fun u hu=>by
   rcases ar.mp hu with z|z
   ·rw[z];exact hv
   ·exact M u z
  have hB:(((V.ref t,e)::ps.zip pd).map (·.2)).Perm (jQ e pd):=by
   rw[cm,U];exact (gJ e pd).symm
  obtain⟨Z,e',W⟩:=yl g p f hB (kX J nw);rw[e'];exact k Z W
section
variable{P:aK}{w:bD}{K:ae}{mg:Str->Option af}{base:cB}{f:aa}{fd:bU}
theorem HX:bO ["self"] ["self"] (aN oP):={}
theorem oy(F:Fun K "word" "Great.word" oP f fd):qf P w K mg base CX0 1 f fd ["self"] (qA "great"):=by
 refine F.okH HX (fun vs H Q E h=>?_) (fun Z A outer s H vs Q E h=>?_)
 ·obtain⟨a,rfl,_⟩:=h;rfl
 obtain⟨a,rfl,q⟩:=h;exact{_,aD (bQ cg),q}
theorem Kg:bO ["self"] ["self"] (aN qg):={}
theorem qF(F:Fun K "word" "Full.word" qg f fd):qf P w K mg base CX0 1 f fd ["self"] (qA "full"):=by
 refine F.okH Kg (fun vs H Q E h=>?_) (fun Z A outer s H vs Q E h=>?_)
 ·obtain⟨a,rfl,_⟩:=h;rfl
 obtain⟨a,rfl,q⟩:=h;exact{_,aD (bQ cg),q}
theorem N2:bO ["self"] ["self"] (aN rN):={}
theorem tf(F:Fun K "word" "Dry.word" rN f fd):qf P w K mg base CX0 1 f fd ["self"] (qA "dry"):=by
 refine F.okH N2 (fun vs H Q E h=>?_) (fun Z A outer s H vs Q E h=>?_)
 ·obtain⟨a,rfl,_⟩:=h;rfl
 obtain⟨a,rfl,q⟩:=h;exact{_,aD (bQ cg),q}
theorem Kh:bO ["self"] ["self"] (aN qh):={}
theorem qG(F:Fun K "word" "Span.word" qh f fd):qf P w K mg base CX0 1 f fd ["self"] (qA "span"):=by
 refine F.okH Kh (fun vs H Q E h=>?_) (fun Z A outer s H vs Q E h=>?_)
 ·obtain⟨a,rfl,_⟩:=h;rfl
 obtain⟨a,rfl,q⟩:=h;exact{_,aD (bQ cg),q}
theorem Ki:bO ["self"] ["self"] (aN qi):={}
theorem qH(F:Fun K "word" "Late.word" qi f fd):qf P w K mg base CX0 1 f fd ["self"] (qA "late"):=by
 refine F.okH Ki (fun vs H Q E h=>?_) (fun Z A outer s H vs Q E h=>?_)
 ·obtain⟨a,rfl,_⟩:=h;rfl
 obtain⟨a,rfl,q⟩:=h;exact{_,aD (bQ cg),q}
end
def pE{Z:Type}(a b c d e f:Z):Flt->Z
 |.nought=>a
 |.great=>b
 |.full=>c
 |.dry=>d
 |.span=>e
 |.late=>f
theorem gE.hid{ex:Ex}{G:Hp}{qa:List (Str×aa)}{qu:List (Str×List Int)}(n:∀a∈qa.map (·.2),a∉ex)(q:gE G qa qu):gE (Hid ex G) qa qu:=
 gE.keep (L:={0,0,0,0,0,0,0,0,0,0,.non,.non,qa}) (fun a u e m=>by rw[eA (n a m)];exact e) (fun _ h=>h) q
theorem hZ.hid{ex:Ex}{G:Hp}(nt:∀a∈ex,∃o,G a=some o/\∀xs,o≠.tup xs){v:V}{e:Ev}(h:hZ G v e):hZ (Hid ex G) v e:=by
 obtain⟨t,k,e1,h1,h2⟩:=h;exact{t,k,e1,gF nt h1,gF nt h2}
theorem Dg.sta{CD CS:aa}{bs qs:List Str}{H0 G:Hp}{L:Lay}{h:Ev}{ds:List Int}{w:Wk}(g:Dg CD CS bs qs H0 G L h ds w){ex:Ex}(n:∀a∈L.all,a∉ex):jP CS (Hid ex G) L.st w.bx w.qu w.dr w.se:=
 {L.dxs,L.bd,L.qd,L.qa,by rw[eA (n _ Lz)];exact g.hst,by rw[eA (n _ LA)];exact g.hb,by rw[eA (n _ in_qd)];exact g.hq,g.hl.hid fun a m=>n a (in_l m)}
theorem HH.told{CD CS:aa}{bs qs:List Str}{H G:Hp}{L:Lay}{h:Ev}{ds:List Int}{w:Wk}{t M wl:aa}{O Y:List V}{qa:List (Str×aa)}(d:HH CD CS bs qs H G L h ds w t M wl O Y qa){ex:Ex}(nt:∀a∈ex,∃o,H a=some o/\∀xs,o≠.tup xs) :
  ∃vs,G L.od=some (.lst vs)/\L.od∉ex/\aJ (hZ (Hid ex G)) vs w.out/\RcIn (Hid ex G) (.ref M) {h,wrB bs w,wrQ qs w,w.out}:=by
 have Z:∀a∈ex,∃o,G a=some o/\∀xs,o≠.tup xs:=fun a ha=>by
  obtain⟨o,e,n⟩:=nt a ha;exact{o,d.sm _ _ e,n}
 have nx:∀{a},H a=none->a∉ex:=fun {a} z m=>by
  obtain⟨o,e,_⟩:=nt a m;rw[z]at e
  cases e
 obtain⟨H0,D,g⟩:=d.dg;obtain⟨vs,J,I⟩:=g.ho;obtain⟨k,h1,h2⟩:=d.hrc;have W:L.od∉ex:=nx (none_of D (g.fr _ LB));have U:=Paired.mono (fun _ _ z=>hZ.hid Z z) I;refine{vs,J,W,U,M,k,wl,L.od,O,Y,vs,qa,rfl,gF Z h1,gF Z (d.sm _ _ h2),?_,Paired.mono (fun _ _ z=>z.keep fun a xs e=>gF Z e) d.wr.b,Paired.mono (fun _ _ z=>z.keep fun a xs e=>gF Z e) d.wr.q,d.wr.l.hid fun a m=>nx (d.wr.fr a (ag _ m)),?_,U}
 ·rw[eA (nx (d.wr.fr _ aC))];exact d.wr.hl
 ·rw[eA W];exact J
theorem qx.clean{bs qs:List Str}{w:Wk}(k:qx bs qs w):qx bs qs (w0 w.bx w.qu w.dr w.se):=
 {k.kb,k.kq,k.nb,k.nq,k.wb,k.wq,iX,(fun x hx=>by cases hx),iX,(fun x hx=>by cases hx),(fun x hx=>by cases hx),k.fw}
theorem Dh{P:Ds->Prop}{hs:List (Str×Ds)}(h:∀q∈hs,P q.2)(n:P .nil)(sg:Str):P (jJ hs sg):=by
 unfold jJ
 cases e:hs.lookup sg with
 |none=>exact n
 |some d=>exact h _ (qy e)
def ToldR(F:Hp)(v:V):List Rec->Prop
 | []=>v=.non
 |q::_=>RcIn F v q
def Oth(ex:Ex)(co sl pl:aa)(H G:Hp):Prop:=∀a,a≠co->a≠sl->a≠pl->∀o,H a=some o->G a=some o
theorem BZ{Hb H G:Hp}{co sl pl:aa}(s:∀b o,Hb b=some o->b≠co/\b≠sl/\b≠pl/\H b=some o)(ot:∀a,a≠co->a≠sl->a≠pl->∀o,H a=some o->G a=some o):∀b o,Hb b=some o->b≠co/\b≠sl/\b≠pl/\G b=some o:=fun b o e=>by
 obtain⟨n1,n2,n3,z⟩:=s b o e;exact{n1,n2,n3,ot b n1 n2 n3 o z}
theorem bC.some{ι:Type}{P:aK}{w:bD}{K:ae}{mg:Str->Option af}{base:cB}{CX:CXT}{k:Nat}{f:aa}{fd:bU}{ps:List Str}{sp:ι->Sp}(F:∀i,bC P w K mg base CX k f fd ps (sp i)) :
  bC P w K mg base CX k f fd ps (fun vs H Q E=>∃i,sp i vs H Q E):=
 {fun vs H Q E ⟨i,q⟩=>(F i).len vs H Q E q,fun A outer s H args us vs Q E hr Z hb hv ⟨i,hs⟩=>(F i).run A outer s H args us vs Q E hr Z hb hv hs}
theorem Kj{X:Cx}{o value:cS}{f:Str}{ta tv:TE}{pos pos':Pos}(K:ae)(Z:X.K=K)(ha:PE X o ta)(hv:PE X value tv)(hs:uw value (some (.Attribute o f pos')) pos.line X.env=pure false):PS X (.Assign [.Attribute o f pos'] value pos) (sFld K ta tv f):=by
 rw[<- Z];exact eP ha hv hs
theorem tj{σ:St}{H:Hp}{Q:List V->Hp->Prop}(h:Q [] H):zY σ H Q:=h
theorem B0{D:mY}{σ:St}{H:Hp}(h:D.nx σ H):o8 D σ H:=h
theorem ER(xs:List Ev)(x:Ev)(pd:List Ev):lV (xs++[x]) pd=jQ x (lV xs pd):=by
 unfold lV;rw[uM];rfl
section
variable{P:aK}{w:bD}{K:ae}{mg:Str->Option af}{base:cB}{f fPu fDn CC CM CS CD CF:aa}{fd fdPu fdDn:bU}{cf fW:Flt->aa}{fdW:Flt->bU}
seal PS PSs PE PA PT PW PI PG PGs PC
inductive LN(CC CS:aa)(vs:List V)(H:Hp)(Q:VK)(_e:XK):Prop where
 |mk(Ms:List MD)(Hb:Hp)(ex:Ex)(co m sl pl:aa)(r:RS)(left:Int)(_:vs=[.ref co,.int left])(_:iC CC CS Ms Hb ex H co m sl pl r)(_:∀v G,aY H G->((gz r left=none/\v=.non)\/∃e,gz r left=some e/\j0 (Hid ex G) v e)->Q v G):LN CC CS vs H Q _e
def N3(CC CS:aa):Sp:=fun vs H Q Z=>LN CC CS vs H Q Z
theorem scEd:bO ["self","left"] ["self","left"] (aN fK):={}
theorem wY(M:Mt K CC "ending_due" "Course.ending_due" fK ["self","left"] f fd)(T:CoT K mg CC):bC P w K mg base CX0 1 f fd ["self","left"] (N3 CC CS):=by
 refine M.F.ok scEd (fun vs H Q E h=>?_) (fun J A outer s H vs Q E hr h=>?_)
 ·obtain⟨Ms,Hb,ex,co,m,sl,pl,r,left,rfl,_⟩:=h;rfl
 obtain⟨Ms,Hb,ex,co,m,sl,pl,r,left,rfl,c,q⟩:=h;refine{_,aj (cW (pX (yy (cU (pv 0) rfl))) (aD (bQ (cU (pv 0) rfl))) cj)
  (aj (cW (A5 (vT (cU (pv 0) rfl) (fun _=>rfl))) (aD (bQ (d9 (aq cg ai)))) cj)
  (aj (cW (bN op_le (pv 1) au (bY _)) (aD (bQ (d9 (aq cg ai)))) cj)
  (aD (bQ yw)))),?_}
 obtain⟨dx,g,O,h1,h2,Z⟩:=c.hc;obtain⟨ps,D,I⟩:=c.hp;have U:=aO I;have Y:∀{G:Hp},aY H G->∀a∈ex,∃o,G a=some o/\∀xs,o≠.tup xs:=fun s a ha=>by
  obtain⟨o,e,n⟩:=c.nt a ha;exact{o,s _ _ e,n}
 cases hsp:r.sp with
 |some st=>
  rw[hsp]at Z;have V:gz r left=some (.stp st):=by
   unfold gz;rw[hsp]
  obtain⟨t,rfl⟩:∃t,O=.ref t:=by
   cases st with
   |fin h=>
    obtain⟨t,_,e,_⟩:=Z;exact⟨t,e⟩
   |flt e h=>
    obtain⟨t,_,e,_⟩:=Z;exact⟨t,e⟩
  refine{_,rfl,co,CC,dx,_,_,rfl,h1,T.cl,T.nE,Kf _ _ _ _ _,_,rfl,iA ?_};exact{_,rfl,co,CC,dx,_,_,rfl,h1,T.cl,T.nE,Kf _ _ _ _ _,q _ _ (aY.refl _) (.inr {_,V,Z})}
 |none=>
  rw[hsp]at Z;have Z:O=.non:=Z;subst Z;refine{_,rfl,co,CC,dx,_,_,rfl,h1,T.cl,T.nE,Kf _ _ _ _ _,_,rfl,gu ?_};refine{_,rfl,co,CC,dx,_,_,rfl,h1,T.cl,T.nP,HW _ _ _ _ _,_,.inl {_,SqL.of D,rfl},?_}
  cases ps with
  |nil=>
   have W:r.pd=[]:=List.eq_nil_of_length_eq_zero U.symm;refine iA {BR,fun t ht=>q _ _ (aH ht _) (.inr {.empty,?_,t,rfl,gF (Y (aH ht _)) ah})};unfold gz;rw[hsp,W];rfl
  |cons x xs=>
   have W:r.pd.isEmpty=false:=by
    cases z:r.pd with
    |nil=>
     rw[z]at U
     cases U
    |cons _ _=>rfl
   refine gu ?_;refine{_,rfl,_,_,rfl,rfl,_,rfl,gH (fun cc=>?_) (fun cc=>?_)}
   ·have cc:=of_decide_eq_true cc;refine{BR,fun t ht=>q _ _ (aH ht _) (.inr {.cut,?_,t,rfl,gF (Y (aH ht _)) ah})};unfold gz;rw[hsp];dsimp only;rw[W,if_neg (by decide),if_pos cc]
   ·have cc:¬left<=0:=fun z=>cc (decide_eq_true z);refine q _ _ (aY.refl _) (.inl {?_,rfl});unfold gz;rw[hsp];dsimp only;rw[W,if_neg (by decide),if_neg cc]
inductive HY(CC CM CS:aa)(vs:List V)(H:Hp)(Q:VK)(_e:XK):Prop where
 |mk(Ms:List MD)(Hb:Hp)(ex:Ex)(co m sl pl:aa)(r:RS)(_:vs=[.ref co])(_:vg CM Ms Hb m)(_:iC CC CS Ms Hb ex H co m sl pl r)(_:r.sp=none)(_:r.pd≠[])(_:r.pd.length<=9000000)(_:∀v G,iC CC CS Ms Hb ex G co m sl pl (d8 Ms r).1->aY (Hid ex H) (Hid ex G)->Oth ex co sl pl H G->ToldR (Hid ex G) v (d8 Ms r).2->Q v G):HY CC CM CS vs H Q _e
def LO(CC CM CS:aa):Sp:=fun vs H Q Z=>HY CC CM CS vs H Q Z
abbrev nD1:List Str:=["self","happening","at","told","fault","sent"]
theorem ES:bO nD1 ["self"] (aN ig):={}
theorem N4{n j:Nat}(h:j<n):ixN n (j:Int)=some j:=by
 unfold ixN;rw[if_pos (by omega),if_pos (by omega)];simp
theorem wZ(M:Mt K CC "do_one" "Course.do_one" ig ["self"] f fd)(jp:Df K mg "put_in" qj ["falling","thing"] fPu fdPu)(gl:bC P w K mg base CX0 2 fPu fdPu ["falling","thing"] AD)
  (kn:Df K mg "done" y8 ["model","state","happening"] fDn fdDn) (hB:∀bq:List Str×List Str,bC P w K mg base (CXo P w) 37 fDn fdDn ["model","state","happening"] (HI cf CM CD CS bq.1 bq.2 5))
  (mW:∀e,yG K (cf e) "word" (fW e)) (bW:∀e,Binds K (fdW e) ["self"] []) (GW:∀e,qf P w K mg base CX0 1 (fW e) (fdW e) ["self"] (qA (qE e))) (XN:∀e,xy K (cf e)) (mF:mg "Fault"=some (.ref CF)) (hx:∀e,dD K (.ref (cf e)) (.ref CF)=some true) (T:CoT K mg CC) (TM:MdT K mg CM CS) :
  bC P w K mg base CX0 38 f fd ["self"] (LO CC CM CS):=by
 have GD:=bC.some hB;refine M.F.ok ES (fun vs H Q E h=>?_) (fun ei A outer s H vs Q E hr h=>?_)
 ·obtain⟨Ms,Hb,ex,co,m,sl,pl,r,rfl,_⟩:=h;rfl
 obtain⟨Ms,Hb,ex,co,m,sl,pl,r,rfl,hM,c,fy,fx,ep,k⟩:=h;have r1:cX 1 _:=hr.mono (by decide);have r2:cX 2 _:=hr.mono (by decide);obtain⟨dx,rv,sv,hT,eH,kv⟩:=c.hc;obtain⟨ss,hC,ki⟩:=c.hs;obtain⟨ps,hK,ih⟩:=c.hp
 -- the last one
 obtain⟨h,hl⟩:∃h,r.pd.getLast?=some h:=by
  cases e:r.pd.getLast? with
  |none=>exact absurd (zl.mp e) fx
  |some h=>exact⟨h,rfl⟩
 have kI:=wN hl;have hA:h∈r.pd:=by
  rw[kI];exact aX _ (aA.mpr rfl)
 have eo:=c.ok.ev h hA;obtain⟨j,hj⟩:∃j:Nat,h.to=(j:Int):={h.to.toNat,by have:=eo.to0;omega};have jl:j<Ms.length:=by have:=eo.to1;omega
 have ej:h.to.toNat=j:=by omega
 have js:j<r.sts.length:=by rw[c.ok.len];exact jl
 obtain⟨Mm,lk⟩:∃M,Ms[j]?=some M:={_,aE jl};obtain⟨st0,ls⟩:∃s,r.sts[j]?=some s:={_,aE js};have d:Did Ms r h Mm st0:={kI,by rw[ej];exact lk,by rw[ej];exact ls};obtain⟨Z,v,hL,kw,hv⟩:∃Z v,ps=Z++[v]/\aJ (hZ (Hid ex H)) Z r.pd.dropLast/\hZ (Hid ex H) v h:=by
  rw[kI]at ih;exact Paired.snoc_inv ih
 obtain⟨th,Y,rfl,gt,hP⟩:=id hv
 -- the aZ and the machine
 obtain⟨gw,ml,fs,hm,hg,xs,hn,eF⟩:=id hM;obtain⟨mv,ft,hX⟩:=jw eF lk;obtain⟨sta,kt,fe⟩:=jw ki ls;have dk:=Dh (P:=fun D=>D.toOk (Ms.length:Int)/\D.deep<=4/\D.size<=3*ddz 4) hX.hk {by simp only[Ds.toOk],by simp only[Ds.deep];omega,by simp only[Ds.size];omega} h.sg;have dz:3*ddz 4<=5000:=by decide
 refine{_,aj (bE (i:=1) ES.nd rfl (Or.inl rfl) (M5 cD zR zS M7 (cU (pv 0) rfl)))
  (aj (bE (i:=2) ES.nd rfl (Or.inl rfl) (bR cv (pv 1) au (fun _ _=>rfl)))
  (aj (JL (fun C σ G=>∃(e:Flt) (u3 u4 u5:Option V),C=cf e/\σ=[some (.ref co),some (.ref th),some (.int h.to),u3,u4,u5]/\doS h Mm.ds (jJ Mm.hs h.sg) st0.w=.error e/\aY (upd H pl (.lst Z)) G)
    (fun pins=>aD (bE (i:=3) ES.nd rfl (Or.inl rfl) (FY GD hr (by rfl) kn.m kn.F.kp kn.b Bv (aq (eE K (by rfl) (pv 0) (by rfl)) (aq (bR (HK K (by rfl)) (eE K (by rfl) (pv 0) (by rfl)) (pv 2) (fun _ _=>rfl)) (aq (pv 1) ai))))))
    (Nj 4 (by rfl) mF ES.nd rfl rfl (fun ea=>aj (Kj K (by rfl) (pv 0) (d9 (aq cg (aq (EC (ι:=Flt) (C:=cf) (fm:=fW) (fd:=fdW) (sp:=fun e=>qA (qE e)) (pv 4) XN mW GW ⟨rfl,r1.dp,r1.un⟩ bW bh) (aq (bR (mT K (by rfl)) (pv 1) au (fun _ _=>rfl)) ai)))) rfl) (aD (bQ yw))) Jx)
    cj)
  (aj (rF (bR cv (pv 3) au (fun _ _=>rfl)) (yA (cU (pv 0) rfl) (pv 2) sI))
  (aj (eP (pv 0) (bR cv (pv 1) au (fun _ _=>rfl)) rfl)
  (aj (jA cY rfl (iM (bR cv (bR cv (pv 3) au (fun _ _=>rfl)) au (fun _ _=>rfl))) (dS (i:=5) ES.nd rfl (Or.inl rfl)) (aD (eR (aM gl r2 (by rfl) jp.m jp.F.kp jp.b .nil bh (aq (cU (pv 0) rfl) (aq (pv 5) ai))))))
  (aj (cW (tL (bR cv (pv 3) au (fun _ _=>rfl))) (aD (eP (pv 0) (d9 (aq cg (aq (bR cv (pv 1) au (fun _ _=>rfl)) ai))) rfl)) cj)
  (aD (bQ (bR cv (pv 3) au (fun _ _=>rfl)))))))))),?_}
 subst hL
 -- it is taken out
 refine cy (cZ ?_);refine{_,rfl,co,CC,dx,_,_,rfl,hT,T.cl,T.nP,HW _ _ _ _ _,.inl {rfl,_,SqL.of hK},pl,_,.ref th,rfl,rfl,hK,?_,?_}
 ·rw[ax];show (Z++[V.ref th])[Z.length+1-1]?=_;rw[Gi,cP (ay _),jZ];rfl
 rw[rC];refine bK ?_;dsimp only;have F1:Hid ex (upd H pl (.lst Z))=Hid ex H:=gW c.i3;have lF:upd H pl (.lst Z) co=some (.ins CC dx (ij (.ref m) (.ref sl) (.ref pl) rv sv)):=aT hT c.n2;have lw:upd H pl (.lst Z) sl=some (.lst (ss.map V.ref)):=aT hC c.n3;have kB:upd H pl (.lst Z) pl=some (.lst Z):=ah;have lA:∀a∈ex,∃o,upd H pl (.lst Z) a=some o/\∀xs,o≠.tup xs:=fun a ha=>by
  by_cases z:a=pl
  ·rw[z];exact{_,ah,fun xs z=>by cases z}
  ·obtain⟨o,e,n⟩:=c.nt a ha;exact{o,aT e z,n}
 have lz:Oth ex co sl pl H (upd H pl (.lst Z)):=fun a _ _ z o e=>aT e z;revert F1 lF lw kB lA lz;generalize upd H pl (.lst Z)=G1;intro F1 lF lw kB lA lz;have ka:aY (Hid ex H) G1:=by
  rw[<- F1];exact dh
 have kc:aY Hb G1:=fun b o e=>by
  obtain⟨n1,n2,n3,z⟩:=c.sm b o e;exact lz b n1 n2 n3 o z
 have mb:=ka _ _ gt;refine cy (cZ ?_);refine{_,rfl,th,_,_,_,rfl,rfl,SqT.of mb,rfl,?_};refine bK ?_;dsimp only;refine cy ?_;refine{?_,fun C el W hl ht=>?_}
 ·refine cZ ?_;have fz:atI (ss.map V.ref) h.to=some (.ref sta):=by
   rw[hj];exact jD (by rw[cC,kt];rfl)
  refine{_,rfl,co,CC,dx,_,_,rfl,lF,T.cl,T.nM,co_m _ _ _ _ _,_,rfl,co,CC,dx,_,_,rfl,lF,T.cl,T.nS,HV _ _ _ _ _,_,rfl,sl,_,_,_,rfl,rfl,SqL.of lw,fz,_,rfl,?_};refine{(Mm.bs,Mm.qs),m,gw,ml,sta,fs,xs,.ref th,mv,h,Mm.ds,Mm.hs,st0.bx,st0.qu,st0.dr,st0.se,rfl,kc _ _ hm,hg,kc _ _ hn,hv.same ka,by rw[hj];exact jD ft,(hX.same kc).ma,jP.same' ka fe,c.wk j Mm st0 lk ls,eo.wt,eo.wa,eo.wb,by omega,by omega,?_}
  cases ew:doS h Mm.ds (jJ Mm.hs h.sg) (w0 st0.bx st0.qu st0.dr st0.se) with
  |error e=>
   exact fun W s6=>{_,rfl,e,_,_,_,rfl,rfl,ew,s6}
  |ok I=>
   intro W L t6 rc wl eh em qa Dn;have lc:doS h Mm.ds (jJ Mm.hs h.sg) st0.w=.ok I:=ew;rw[sY d lc]at k;have N:=oo (m:=(Ms.length:Int)) _ _ _ dk.1 lc;obtain⟨hI,io,er⟩:=wQ c.ok d N;obtain⟨H0,s0,g⟩:=Dn.dg;have lR:=HU c.ok d lc N g.ok.wo;rw[sY d lc]at lR;obtain⟨vs,ez,ip,hS,kz⟩:=Dn.told lA;have mc:=Dn.sm;obtain⟨kk,hrc,_⟩:=Dn.hrc;have nx:∀a∈L.all,a∉ex:=fun a ha z=>by
    obtain⟨o,e,_⟩:=lA a z;have:=g.fr a ha;rw[s0 _ _ e]at this
    cases this
   have fa:=g.sta nx;have f6:aY (Hid ex H) (Hid ex W):=by
    rw[<- F1];exact gA mc
   have et:aY (Hid ex W) W:=dh;have hY:=mc _ _ lF;have hQ:=mc _ _ lw;have gq:=mc _ _ kB;have gM:Oth ex co sl pl H W:=fun a n1 n2 n3 o e=>mc _ _ (lz a n1 n2 n3 o e);have la:∀a∈ex,∃o,W a=some o/\∀xs,o≠.tup xs:=fun a ha=>by
    obtain⟨o,e,n⟩:=lA a ha;exact{o,mc _ _ e,n}
   refine bK ?_;refine B0 ?_;dsimp only;refine B0 ?_;dsimp only
   -- the new state
   have eu:j<(ss.map V.ref).length:=(aF.mp (show (ss.map V.ref)[j]?=some (.ref sta) by rw[cC,kt];rfl)).1;refine cy (cZ ?_);refine{_,rfl,t6,_,_,_,rfl,rfl,SqT.of Dn.ht,rfl,?_};refine{_,rfl,co,CC,dx,_,_,rfl,hY,T.cl,T.nS,HV _ _ _ _ _,_,rfl,sl,_,_,j,rfl,rfl,hQ,by rw[hj];exact N4 eu,?_}
   -- its key is reached
   have hN:upd W sl (.lst ((ss.map V.ref).set j (.ref L.st))) th=some (.tup [.ref Y,.int h.to,.str h.sg,.int h.a,.int h.b]):=aT (mc _ _ mb) (o6 (mc _ _ mb) hQ (by intro z;cases z));have ge:upd W sl (.lst ((ss.map V.ref).set j (.ref L.st))) co=some (.ins CC dx (ij (.ref m) (.ref sl) (.ref pl) rv sv)):=aT hY c.n1;refine cy ?_;refine{_,rfl,th,_,_,_,rfl,rfl,SqT.of hN,rfl,_,rfl,co,CC,dx,_,rfl,ge,T.cl,T.nR,wU _ _ _ _ _,?_};rw[Dc];have F8:Hid ex (upd (upd W sl (.lst ((ss.map V.ref).set j (.ref L.st)))) co (.ins CC dx (ij (.ref m) (.ref sl) (.ref pl) (.ref Y) sv)))=Hid ex W:=by
    rw[gW c.i1,gW c.i2]
   have lj:upd (upd W sl (.lst ((ss.map V.ref).set j (.ref L.st)))) co (.ins CC dx (ij (.ref m) (.ref sl) (.ref pl) (.ref Y) sv)) co=some (.ins CC dx (ij (.ref m) (.ref sl) (.ref pl) (.ref Y) sv)):=ah;have lf:upd (upd W sl (.lst ((ss.map V.ref).set j (.ref L.st)))) co (.ins CC dx (ij (.ref m) (.ref sl) (.ref pl) (.ref Y) sv)) sl=some (.lst ((ss.map V.ref).set j (.ref L.st))):=aT ah c.n1.symm;have iv:upd (upd W sl (.lst ((ss.map V.ref).set j (.ref L.st)))) co (.ins CC dx (ij (.ref m) (.ref sl) (.ref pl) (.ref Y) sv)) pl=some (.lst Z):=aT (aT gq c.n3.symm) c.n2.symm;have ke:Oth ex co sl pl H (upd (upd W sl (.lst ((ss.map V.ref).set j (.ref L.st)))) co (.ins CC dx (ij (.ref m) (.ref sl) (.ref pl) (.ref Y) sv))):=fun a n1 n2 n3 o e=>aT (aT (gM a n1 n2 n3 o e) n2) n1;have jq:∀a∈ex,∃o,upd (upd W sl (.lst ((ss.map V.ref).set j (.ref L.st)))) co (.ins CC dx (ij (.ref m) (.ref sl) (.ref pl) (.ref Y) sv)) a=some o/\∀xs,o≠.tup xs:=fun a ha=>by
    by_cases z:a=co
    ·rw[z];exact{_,ah,fun xs z=>by cases z}
    ·by_cases y:a=sl
     ·rw[y];exact{_,lf,fun xs z=>by cases z}
     ·obtain⟨o,e,n⟩:=la a ha;exact{o,aT (aT e y) z,n}
   revert F8 lj lf iv ke jq;generalize upd (upd W sl (.lst ((ss.map V.ref).set j (.ref L.st)))) co (.ins CC dx (ij (.ref m) (.ref sl) (.ref pl) (.ref Y) sv))=G8;intro F8 lj lf iv ke jq;have lv:aY (Hid ex W) G8:=by
    rw[<- F8];exact dh
   have ln:Hid ex W t6=some (.tup [.ref L.st,.ref rc,.bl I.en]):=gF la Dn.ht;have ii:Hid ex W rc=_:=gF la hrc;have ky:Hid ex W L.od=some (.lst vs):=by
    rw[eA ip];exact ez
   have im:Hid ex W th=_:=gF la (mc _ _ mb);have lr:Hid ex W Y=some (BX h):=f6 _ _ hP
   -- what was sent is put in
   have gr:kR r.pd.dropLast:=by
    have z:=c.ok.fall;rw[kI]at z;exact (oq z).1
   have hE:L.od≠pl:=fun z=>ip (by rw[z];exact c.i3);refine cy ?_;refine{_,rfl,t6,_,_,_,rfl,rfl,SqT.of (lv _ _ ln),rfl,rc,_,_,_,rfl,rfl,SqT.of (lv _ _ ii),rfl,L.od,rfl,{_,SqL.of (lv _ _ ky)},jB (K:=K) (a:=L.od) (xs:=vs) (fun i σ G'=>∃(u4 u:Option V) (ps:List V),σ=[some (.ref co),some (.ref th),some (.int h.to),some (.ref t6),u4,u]/\G' pl=some (.lst ps)/\aJ (hZ (Hid ex W)) ps (lV (I.out.take i) r.pd.dropLast)/\But pl G8 G')
    {_,_,Z,rfl,iv,by rw[jS];exact Paired.mono (fun _ _ z=>z.same f6) kw,But.refl _ _} ?_ ?_ ?_}
   ·rintro i σ G' _ ⟨_,_,_,rfl,_,_,b⟩;exact SqL.of (b _ _ (lv _ _ ky) hE)
   ·rintro i x σ G' hi ⟨u4,u,ps,rfl,g1,g2,b⟩;obtain⟨e,he,hz⟩:=oj hS hi;have fk:aY (Hid ex W) G':=fun a o z=>b _ _ (lv _ _ z) fun y=>gO z (by rw[y];exact c.i3);have mem:e∈I.out:=cA he;have tk:I.out.take (i+1)=I.out.take i++[e]:=by
     rw[fZ,he];rfl
    have fo:∀x∈I.out.take i,x.key≠e.key:=fun x hx=>by
     have pw:=io;rw[<- qS (i+1) I.out,tk]at pw;exact (fc.mp (fc.mp pw).1).2.2 x hx e (aA.mpr rfl)
    have fall:kR (lV (I.out.take i) r.pd.dropLast):=kY gr (fun x hx=>hI x (Di hx)) (io.sublist (uA _ _));refine{_,rfl,co,CC,dx,_,_,rfl,b _ _ lj c.n2,T.cl,T.nP,HW _ _ _ _ _,_,rfl,?_};refine tj ?_;show AD [V.ref pl,x] G' _ _;refine De (F:=Hid ex W) fk g1 g2 fall hz (fun y hy=>?_) ?_ fun hf hR=>?_
    ·rcases bM.mp ((eG _ _).mem_iff.mp hy) with z|z
     ·exact fun q=>fo y z q.symm
     ·exact hI e mem y z
    ·rw[(eG _ _).length_eq,ax,kP,cM];obtain⟨new,e1,e2,_⟩:=N.ex;have e1:I.out=new:=e1;have:=dk.2.2;rw[e1];omega
    ·refine{_,_,hf,rfl,ah,?_,b.trans (But.upd pl _ _)};rw[tk,ER];exact hR
   rintro σ G9 ⟨u4,u,ek,rfl,g1,g2,b⟩;have gd:vs.length=I.out.length:=aO hS;rw[gd,eg]at g2;have F9:aY (Hid ex W) (Hid ex G9):=by
    rw[<- F8];exact NZ fun a o e n=>b _ _ e fun y=>n (by rw[y];exact c.i3)
   have ix:aY (Hid ex W) G9:=F9.trans dh;have il:=b _ _ lj c.n2;have iF:=b _ _ lf c.n3;have kG:Oth ex co sl pl H G9:=fun a n1 n2 n3 o e=>b _ _ (ke a n1 n2 n3 o e) n3;have hO:∀a∈ex,∃o,G9 a=some o/\∀xs,o≠.tup xs:=fun a ha=>by
    by_cases z:a=pl
    ·rw[z];exact{_,g1,fun xs z=>by cases z}
    ·obtain⟨o,e,n⟩:=jq a ha;exact{o,b _ _ e z,n}
   have hG:∀(i:Nat) (M:MD) (s:Sta),Ms[i]?=some M->(r.sts.set h.to.toNat ⟨I.bx,I.qu,I.dr,I.se⟩)[i]?=some s->qx M.bs M.qs s.w:=fun i M s hi hs=>by
    rw[ej]at hs
    by_cases z:i=j
    ·rw[z,fV js]at hs;rw[z,lk]at hi
     cases hs
     cases hi;exact g.ok.clean
    ·rw[iV (fun y=>z y.symm)]at hs;exact c.wk i M s hi hs
   have hH:∀{F:Hp},aY (Hid ex W) F->aJ (StA CS F) (ss.set j L.st) (r.sts.set h.to.toNat ⟨I.bx,I.qu,I.dr,I.se⟩):=fun {F} s=>by
    rw[ej];exact Paired.set (Paired.mono (fun _ _ z=>jP.same' (f6.trans s) z) ki) j (jP.same' s fa)
   have eL:(ss.map V.ref).set j (.ref L.st)=(ss.set j L.st).map V.ref:=List.map_set.symm;rw[eL]at iF;refine cy ?_;refine{_,rfl,t6,_,_,_,rfl,rfl,SqT.of (ix _ _ ln),rfl,I.en,rfl,?_}
   cases een:I.en with
   |true=>
    rw[een]at k lR;refine iA ?_;refine{_,rfl,th,_,_,_,rfl,rfl,SqT.of (ix _ _ im),rfl,lt2,fun J lx=>?_};have sz:=aH lx (.tup [.str "end",.ref Y]);refine{_,rfl,co,CC,dx,_,rfl,sz _ _ il,T.cl,T.nE,wU _ _ _ _ _,?_};rw[zk];have U:Hid ex (upd (upd G9 J (.tup [.str "end",.ref Y])) co (.ins CC dx (ij (.ref m) (.ref sl) (.ref pl) (.ref Y) (.ref J))))=Hid ex (upd G9 J (.tup [.str "end",.ref Y])):=gW c.i1;have lp:∀a∈ex,∃o,upd G9 J (.tup [.str "end",.ref Y]) a=some o/\∀xs,o≠.tup xs:=fun a ha=>by
     obtain⟨o,e,n⟩:=hO a ha;exact{o,sz _ _ e,n}
    have O:aY (Hid ex W) (Hid ex (upd G9 J (.tup [.str "end",.ref Y]))):=F9.trans (gA sz);have lM:Hid ex (upd G9 J (.tup [.str "end",.ref Y])) J=some (.tup [.str "end",.ref Y]):=gF lp ah;have ly:∀{a:aa} {o:HO},a≠co->upd G9 J (.tup [.str "end",.ref Y]) a=some o->upd (upd G9 J (.tup [.str "end",.ref Y])) co (.ins CC dx (ij (.ref m) (.ref sl) (.ref pl) (.ref Y) (.ref J))) a=some o:=fun n e=>aT e n;have hF:aY (Hid ex W) (upd (upd G9 J (.tup [.str "end",.ref Y])) co (.ins CC dx (ij (.ref m) (.ref sl) (.ref pl) (.ref Y) (.ref J)))):=by
     refine aY.trans O ?_;rw[<- U];exact dh
    refine{_,rfl,t6,_,_,_,rfl,rfl,SqT.of (hF _ _ ln),rfl,?_};refine k _ _ {lR,?_,c.i1,c.i2,c.i3,c.n1,c.n2,c.n3,{dx,_,_,ah,?_,?_},{_,ly c.n1.symm (sz _ _ iF),?_},{_,ly c.n2.symm (sz _ _ g1),?_},hG,fun a ha=>?_} ?_ ?_ ?_
    ·exact BZ c.sm fun a n1 n2 n3 o e=>ly n1 (sz _ _ (kG a n1 n2 n3 o e))
    ·rw[U];exact{Y,rfl,O _ _ lr}
    ·rw[U];exact{J,Y,rfl,lM,O _ _ lr}
    ·rw[U];exact hH O
    ·rw[U];exact Paired.mono (fun _ _ z=>z.same O) g2
    ·by_cases z:a=co
     ·rw[z];exact{_,ah,fun xs z=>by cases z}
     ·obtain⟨o,e,n⟩:=lp a ha;exact{o,ly z e,n}
    ·rw[U];exact f6.trans O
    ·exact fun a n1 n2 n3 o e=>ly n1 (sz _ _ (kG a n1 n2 n3 o e))
    ·rw[U];exact kz.same O
   |false=>
    rw[een]at k lR;refine gu ?_;have ey:sv=.non:=by
     rw[fy]at kv;exact kv
    refine{_,rfl,t6,_,_,_,rfl,rfl,SqT.of (ix _ _ ln),rfl,?_};exact k _ _ {lR,BZ c.sm kG,c.i1,c.i2,c.i3,c.n1,c.n2,c.n3,{dx,_,_,il,{Y,rfl,F9 _ _ lr},ey},{_,iF,hH F9},{_,g1,Paired.mono (fun _ _ z=>z.same F9) g2},hG,hO} (f6.trans F9) kG (kz.same F9)
 ·-- a fault
  obtain⟨e,u3,u4,u5,rfl,rfl,ew,s6⟩:=ht;rw[qC d ew]at k;have lR:=EN c.ok d ew;rw[qC d ew]at lR;refine .inl {hx e,fun ea hD=>?_};have sx:=aH hD (XO ea (cf e));have s7:=s6.trans sx;have f7:aY (Hid ex H) (Hid ex (upd W ea (XO ea (cf e)))):=by
   rw[<- F1];exact gA s7
  refine cy ?_;refine{_,rfl,ea,e,rfl,ah,_,rfl,_,rfl,th,_,_,_,rfl,rfl,SqT.of (s7 _ _ mb),rfl,(by show 3<=aB;decide),fun J lx=>?_};have sz:=aH lx (.tup [.str "fault",.str (qE e),.ref Y]);have s8:=s7.trans sz;refine{_,rfl,co,CC,dx,_,rfl,s8 _ _ lF,T.cl,T.nE,wU _ _ _ _ _,?_};rw[zk];revert lx sz s8;generalize upd W ea (XO ea (cf e))=G7 at f7 |-;intro lx sz s8;have U:Hid ex (upd (upd G7 J (.tup [.str "fault",.str (qE e),.ref Y])) co (.ins CC dx (ij (.ref m) (.ref sl) (.ref pl) rv (.ref J))))=Hid ex (upd G7 J (.tup [.str "fault",.str (qE e),.ref Y])):=gW c.i1;have lp:∀a∈ex,∃o,upd G7 J (.tup [.str "fault",.str (qE e),.ref Y]) a=some o/\∀xs,o≠.tup xs:=fun a ha=>by
   obtain⟨o,e,n⟩:=lA a ha;exact{o,s8 _ _ e,n}
  have O:aY (Hid ex H) (Hid ex (upd G7 J (.tup [.str "fault",.str (qE e),.ref Y]))):=f7.trans (gA sz);have lM:Hid ex (upd G7 J (.tup [.str "fault",.str (qE e),.ref Y])) J=some (.tup [.str "fault",.str (qE e),.ref Y]):=gF lp ah;refine k _ _ {lR,?_,c.i1,c.i2,c.i3,c.n1,c.n2,c.n3,{dx,_,_,ah,?_,?_},{ss,aT (s8 _ _ lw) c.n1.symm,?_},{Z,aT (s8 _ _ kB) c.n2.symm,?_},c.wk,fun a ha=>?_} ?_ ?_ rfl
  ·exact BZ c.sm fun a n1 n2 n3 o e=>aT (s8 _ _ (lz a n1 n2 n3 o e)) n1
  ·rw[U];exact eH.same O
  ·rw[U];exact{J,Y,rfl,lM,O _ _ hP}
  ·rw[U];exact Paired.mono (fun _ _ z=>jP.same' O z) ki
  ·rw[U];exact Paired.mono (fun _ _ z=>z.same O) kw
  ·by_cases z:a=co
   ·rw[z];exact{_,ah,fun xs z=>by cases z}
   ·obtain⟨o,e,n⟩:=lp a ha;exact{o,aT e z,n}
  ·rw[U];exact O
  ·exact fun a n1 n2 n3 o e=>aT (s8 _ _ (lz a n1 n2 n3 o e)) n1
end
def lW(Ms:List MD):Prop:=∀M∈Ms,∀q∈M.hs,q.2.toOk (Ms.length:Int)/\q.2.deep<=4/\q.2.size<=3*ddz 4
theorem vg.ok{CM:aa}{Ms:List MD}{H:Hp}{m:aa}(h:vg CM Ms H m):lW Ms:=by
 obtain⟨dx,Y,fs,_,_,xs,_,p⟩:=h;intro M hM;obtain⟨j,Z⟩:=dH hM;obtain⟨x,_,z⟩:=jw p Z;exact z.hk
theorem N5{Ms:List MD}{r:RS}(k:ROk Ms.length r)(n:r.pd≠[]):∃h M s,Did Ms r h M s:=by
 obtain⟨h,hl⟩:∃h,r.pd.getLast?=some h:=by
  cases e:r.pd.getLast? with
  |none=>exact absurd (zl.mp e) n
  |some h=>exact⟨h,rfl⟩
 have Z:=wN hl;have Y:h∈r.pd:=by
  rw[Z];exact aX _ (aA.mpr rfl)
 have W:=k.ev h Y;have V:h.to.toNat<Ms.length:=by have:=W.to1;have:=W.to0;omega
 have U:h.to.toNat<r.sts.length:=by rw[k.len];exact V
 exact{h,_,_,Z,aE V,aE U}
inductive HZ(Ms:List MD)(r:RS):Prop
 |err(h:Ev)(M:MD)(s:Sta)(e:Flt)(d:Did Ms r h M s)(q:doS h M.ds (jJ M.hs h.sg) s.w=.error e)(eq:d8 Ms r=({r with pd:=r.pd.dropLast,sp:=some (.flt e h)},[]))
 |ok(h:Ev)(M:MD)(s:Sta)(w:Wk)(d:Did Ms r h M s)(q:doS h M.ds (jJ M.hs h.sg) s.w=.ok w)(N:News (Ms.length:Int) h (3*ddz 4) s.w w)
   (eq:d8 Ms r=(⟨r.sts.set h.to.toNat ⟨w.bx,w.qu,w.dr,w.se⟩,lV w.out r.pd.dropLast,some h,if w.en=true then some (.fin h) else none⟩,[⟨h,wrB M.bs w,wrQ M.qs w,w.out⟩]))
theorem jk{Ms:List MD}{r:RS}(mo:lW Ms)(k:ROk Ms.length r)(n:r.pd≠[]):HZ Ms r:=by
 obtain⟨h,M,s,d⟩:=N5 k n;have dk:=Dh (P:=fun D=>D.toOk (Ms.length:Int)/\D.deep<=4/\D.size<=3*ddz 4) (mo M (cA d.hM)) ⟨by simp only[Ds.toOk],by simp only[Ds.deep];omega,by simp only[Ds.size];omega⟩ h.sg
 cases q:doS h M.ds (jJ M.hs h.sg) s.w with
 |error e=>exact .err h M s e d q (qC d q)
 |ok w=>exact .ok h M s w d q ((oo _ _ _ dk.1 q).le dk.2.2) (sY d q)
theorem eZ{r:RS}{left:Int}(h:gz r left=none):r.sp=none/\r.pd≠[]/\0<left:=by
 unfold gz at h
 split at h
 ·cases h
 ·rename_i e
  split at h
  ·cases h
  ·rename_i c
   split at h
   ·cases h
   ·refine{e,fun z=>?_,by omega};rw[z]at c;exact c rfl
theorem N6{r:RS}{left:Int}{s:Stp}(h:r.sp=some s):gz r left=some (.stp s):=by
 unfold gz;rw[h]
theorem tu{Ms:List MD}{r:RS}(h:HZ Ms r):(d8 Ms r).1.pd.length<=r.pd.length+5000*(d8 Ms r).2.length/\((∃q,(d8 Ms r).2=[q])\/((d8 Ms r).2=[]/\∃s,(d8 Ms r).1.sp=some s)):=by
 cases h with
 |err h M s e d q eq=>
  rw[eq];refine{?_,.inr {rfl,_,rfl}};show r.pd.dropLast.length<=_;rw[kP];omega
 |ok h M s w d q N eq=>
  rw[eq];refine{?_,.inl {_,rfl}};show (lV w.out r.pd.dropLast).length<=r.pd.length+5000*1;rw[(eG _ _).length_eq,ax,kP];obtain⟨new,e1,Y,_⟩:=N.ex;have e1:w.out=new:=e1;have Z:3*ddz 4<=5000:=by decide
  rw[e1];omega
def jg(Ms:List MD)(r:RS)(Z:Int)(i:Nat)(e:End):Prop:=(∀j,j<i->ROk Ms.length (itR Ms r j).1/\gz (itR Ms r j).1 (Z-(itR Ms r j).2.length)=none)/\gz (itR Ms r i).1 (Z-(itR Ms r i).2.length)=some e/\ROk Ms.length (itR Ms r i).1
def rMu(σ:St)(G:Hp):Nat:=match (σ[3]?:Option (Option V)),(σ[2]?:Option (Option V)) with
 |some (some .non),some (some (.ref rl))=>(match G rl with|some (.lst rs)=>1+(2000-rs.length)|_=>0)
 |_,_=>0
theorem Dj{σ:St}{G:Hp}{rl:aa}{rs:List V}(Y:σ[3]?=some (some .non))(Z:σ[2]?=some (some (.ref rl)))(hr:G rl=some (.lst rs)):rMu σ G=1+(2000-rs.length):=by
 unfold rMu;rw[Y,Z];dsimp only;rw[hr]
theorem Dk{σ:St}{G:Hp}{t:aa}(Z:σ[3]?=some (some (.ref t))):rMu σ G=0:=by
 unfold rMu;rw[Z]
theorem j0.ref{F:Hp}{v:V}:∀{e:End},j0 F v e->∃t,v=.ref t
 |.empty,⟨t,e,_⟩=>⟨t,e⟩
 |.cut,⟨t,e,_⟩=>⟨t,e⟩
 |.stp (.fin _),⟨t,_,e,_⟩=>⟨t,e⟩
 |.stp (.flt _ _),⟨t,_,e,_⟩=>⟨t,e⟩
section
variable{P:aK}{w:bD}{K:ae}{mg:Str->Option af}{base:cB}{f fE fO CC CM CS:aa}{fd fdE fdO:bU}
seal PS PSs PE PA PT PW PI PG PGs PC
structure Ran(CC CS:aa)(Ms:List MD)(Hb:Hp)(ex:Ex)(co m sl pl:aa)(r:RS)(most:Int)(H G:Hp)(t:aa)(i:Nat)(e:End):Prop where
 st:jg Ms r most i e
 cc:iC CC CS Ms Hb ex G co m sl pl (itR Ms r i).1
 sm:aY (Hid ex H) (Hid ex G)
 ot:Oth ex co sl pl H G
 rs:∃rl en rvs,Hid ex G t=some (.tup [.ref rl,en])/\Hid ex G rl=some (.lst rvs)/\H rl=none/\aJ (RcIn (Hid ex G)) rvs (itR Ms r i).2/\j0 (Hid ex G) en e
inductive H9(CC CM CS:aa)(vs:List V)(H:Hp)(Q:VK)(_e:XK):Prop where
 |mk(Ms:List MD)(Hb:Hp)(ex:Ex)(co m sl pl:aa)(r:RS)(most:Int)(_:vs=[.ref co,.int most])(_:vg CM Ms Hb m)(_:iC CC CS Ms Hb ex H co m sl pl r)(_:most<=1000)(_:r.pd.length<=1000000)(_:∀G t i e,Ran CC CS Ms Hb ex co m sl pl r most H G t i e->Q (.ref t) G):H9 CC CM CS vs H Q _e
def AF(CC CM CS:aa):Sp:=fun vs H Q Z=>H9 CC CM CS vs H Q Z
abbrev nRn:List Str:=["course","most","records","ending","record"]
theorem Ia:bO nRn ["course","most"] (aN lN):={}
theorem w5(D:Df K mg "run_on" lN ["course","most"] f fd)(ME:Mt K CC "ending_due" "Course.ending_due" fK ["self","left"] fE fdE)(GE:bC P w K mg base CX0 1 fE fdE ["self","left"] (N3 CC CS))
  (MO:Mt K CC "do_one" "Course.do_one" ig ["self"] fO fdO) (GO:bC P w K mg base CX0 38 fO fdO ["self"] (LO CC CM CS)) (T:CoT K mg CC) (B:Bl mg) :
  bC P w K mg base CX0 39 f fd ["course","most"] (AF CC CM CS):=by
 refine D.F.ok Ia (fun vs H Q E h=>?_) (fun ea A outer s H vs Q E hr h=>?_)
 ·obtain⟨Ms,Hb,ex,co,m,sl,pl,r,Z,rfl,_⟩:=h;rfl
 obtain⟨Ms,Hb,ex,co,m,sl,pl,r,Z,rfl,hM,c,ei,dz,k⟩:=h;have r1:cX 1 _:=hr.mono (by decide);refine{_,aj (bE (i:=2) Ia.nd rfl (Or.inl rfl) (eQ ai))
  (aj (bE (i:=3) Ia.nd rfl (Or.inl rfl) (eT (pv 0) T.cl ME.m GE r1 ME.b .nil bh (aq (pv 1) ai)))
  (aj (vR cY (pX (Fo (pv 3)))
   (aj (bE (i:=4) Ia.nd rfl (Or.inl rfl) (kj (pv 0) T.cl MO.m GO hr MO.b .nil bh))
   (aj (cW (pX (yy (pv 4))) (aD (eR (pz cD dI dJ iO (pv 2) (aq (pv 4) ai)))) cj)
   (aD (bE (i:=3) Ia.nd rfl (Or.inl rfl) (eT (pv 0) T.cl ME.m GE r1 ME.b .nil bh (aq (cL jn (pv 1) (cO (eB K (by rfl)) (by rfl) B.len cb (aq (pv 2) ai))) ai)))))))
  (aD (bQ (d9 (aq (pv 2) (aq (pv 3) ai))))))),?_}
 have ez:∀{G:Hp} {r':RS} {ex':Ex},iC CC CS Ms Hb ex' G co m sl pl r'->∃dx fs,G co=some (.ins CC dx fs)/\fs.lookup ("ending_due":Str)=none/\fs.lookup ("do_one":Str)=none:=fun c'=>by
  obtain⟨dx,rv,sv,h1,_⟩:=c'.hc;exact{dx,_,h1,wV _ _ _ _ _ (by decide +kernel),wV _ _ _ _ _ (by decide +kernel)}
 have mo:=hM.ok
 -- no records
 refine cy (cZ ?_);refine{bV _,fun rl U=>?_};refine bK ?_;dsimp only;have c0:=c.more (o:=.lst []) U (fun xs z=>by cases z);have ep:upd H rl (.lst []) rl=some (.lst []):=ah;have f0:aY (Hid ex H) (Hid (ex.add rl) (upd H rl (.lst []))):=by
  rw[qD U];exact aY.refl _
 have er:Oth ex co sl pl H (upd H rl (.lst [])):=fun a _ _ _ o e=>aT e (aw e U);have n1:co≠rl:=by
  obtain⟨dx,rv,sv,h1,_⟩:=c.hc;exact aw h1 U
 have n2:sl≠rl:=by
  obtain⟨ss,h1,_⟩:=c.hs;exact aw h1 U
 have n3:pl≠rl:=by
  obtain⟨ss,h1,_⟩:=c.hp;exact aw h1 U
 have eo:Hb rl=none:=by
  cases z:Hb rl with
  |none=>rfl
  |some o=>
   have y:=(c.sm _ _ z).2.2.2;rw[U]at y
   cases y
 revert c0 ep f0 er;generalize upd H rl (.lst [])=G0;intro c0 ep f0 er;refine cy (cZ ?_);obtain⟨dx,fs,J,fx,eL⟩:=ez c0;refine{_,rfl,co,dx,fs,rfl,J,fx,_,rfl,Ms,Hb,ex.add rl,co,m,sl,pl,r,Z,rfl,c0,fun en G1 s1 ft=>?_};refine bK ?_;dsimp only;refine cy ?_;refine zX (fun σ G=>∃(i:Nat) (en:V) (u4:Option V) (Y:List V),σ=[some (.ref co),some (.int Z),some (.ref rl),some en,u4]/\(∀j,j<i->ROk Ms.length (itR Ms r j).1/\gz (itR Ms r j).1 (Z-(itR Ms r j).2.length)=none)/\iC CC CS Ms Hb (ex.add rl) G co m sl pl (itR Ms r i).1 /\
   G rl=some (.lst Y)/\aJ (RcIn (Hid (ex.add rl) G)) Y (itR Ms r i).2/\aY (Hid ex H) (Hid (ex.add rl) G)/\Oth ex co sl pl H G/\(itR Ms r i).1.pd.length<=1000000+5000*(itR Ms r i).2.length /\
   ((gz (itR Ms r i).1 (Z-(itR Ms r i).2.length)=none/\en=.non)\/∃e,gz (itR Ms r i).1 (Z-(itR Ms r i).2.length)=some e/\j0 (Hid (ex.add rl) G) en e)) rMu ?_ ?_ ?_
 ·refine{0,en,_,[],rfl,fun j hj=>absurd hj (gD _),c0.same s1,s1 _ _ ep,.nil,f0.trans (gA s1),fun a q1 q2 q3 o e=>s1 _ _ (er a q1 q2 q3 o e),by show r.pd.length<=_;omega,?_};have e0:Z-(((itR Ms r 0).2.length:Nat):Int)=Z:=by
   show Z-((0:Nat):Int)=Z;omega
  rw[e0];exact ft
 ·clear ft;rintro σ G ⟨i,en,u4,Y,rfl,hj,c1,fo,fe,f1,ej,dV,hd⟩;have dG:=aO fe
  rcases hd with⟨hd,rfl⟩|⟨e,hd,ft⟩
  ·obtain⟨d1,d2,d3⟩:=eZ hd;have si:=jk mo c1.ok d2;obtain⟨fa,ef⟩:=tu si;refine{_,rfl,_,rfl,iA ?_};refine cy (cZ ?_);obtain⟨dx,fs,J,fx,eL⟩:=ez c1;refine{_,rfl,co,dx,fs,rfl,J,eL,Ms,Hb,ex.add rl,co,m,sl,pl,_,rfl,hM,c1,d1,d2,by omega,fun v G2 c2 f2 ek tl=>?_};refine bK ?_;dsimp only;have fy:G2 rl=some (.lst Y):=ek rl n1.symm n2.symm n3.symm _ fo;have ew:Oth ex co sl pl H G2:=fun a q1 q2 q3 o e=>ek a q1 q2 q3 o (ej a q1 q2 q3 o e);have el:rMu [some (.ref co),some (.int Z),some (.ref rl),some .non,u4] G=1+(2000-Y.length):=Dj rfl rfl fo;have big:2000<aB:=by decide
   have eF:itR Ms r (i+1)=((d8 Ms (itR Ms r i).1).1,(itR Ms r i).2++(d8 Ms (itR Ms r i).1).2):=rfl;have em:∀j,j<i+1->ROk Ms.length (itR Ms r j).1/\gz (itR Ms r j).1 (Z-(itR Ms r j).2.length)=none:=fun j dL=>by
    rcases jf j i with z|z
    ·exact hj j z
    ·have:j=i:=by omega
     rw[this];exact⟨c1.ok,hd⟩
   rcases ef with⟨q,eq⟩|⟨eq,sp,ee⟩
   ·rw[eq]at tl fa;obtain⟨I,ed⟩:∃I,v=.ref I:=by
     obtain⟨I,_,_,_,_,_,_,_,e,_⟩:=tl;exact⟨I,e⟩
    subst ed;refine cy ?_;refine{_,rfl,_,rfl,iA ?_};refine{_,rfl,.inl {rfl,_,SqL.of fy},_,rfl,rl,Y,.ref I,rfl,rfl,fy,by omega,?_};have c3:=c2.upd (a:=rl) (o:=.lst (Y++[.ref I])) Ex.here eo n1 n2 n3 (fun xs z=>by cases z);have M:upd G2 rl (.lst (Y++[.ref I])) rl=some (.lst (Y++[.ref I])):=ah;have f3:Hid (ex.add rl) (upd G2 rl (.lst (Y++[.ref I])))=Hid (ex.add rl) G2:=gW Ex.here;have eu:Oth ex co sl pl H (upd G2 rl (.lst (Y++[.ref I]))):=fun a q1 q2 q3 o e=>aT (ew a q1 q2 q3 o e) (aw e U);have W:aJ (RcIn (Hid (ex.add rl) (upd G2 rl (.lst (Y++[.ref I]))))) (Y++[.ref I]) (itR Ms r (i+1)).2:=by
     rw[f3,eF,eq];exact eN (Paired.mono (fun _ _ z=>z.same f2) fe) tl
    have et:aY (Hid ex H) (Hid (ex.add rl) (upd G2 rl (.lst (Y++[.ref I])))):=by
     rw[f3];exact f1.trans f2
    have O:iC CC CS Ms Hb (ex.add rl) (upd G2 rl (.lst (Y++[.ref I]))) co m sl pl (itR Ms r (i+1)).1:=c3;revert O M eu W et;clear c3 f3;generalize upd G2 rl (.lst (Y++[.ref I]))=G3;intro M eu W et O;have l3:=aO W;dsimp only;refine cZ ?_;obtain⟨dx,fs,J,fx,eL⟩:=ez O;refine{_,rfl,co,dx,fs,rfl,J,fx,_,rfl,_,rfl,rl,_,rfl,.inl (SqL.of M),_,_,rfl,rfl,Ms,Hb,ex.add rl,co,m,sl,pl,_,_,rfl,O,fun eH G4 s4 g=>?_};refine bK ?_;dsimp only;refine{{i+1,eH,_,_,rfl,em,O.same s4,s4 _ _ M,Paired.mono (fun _ _ z=>z.same (gA s4)) W,et.trans (gA s4),fun a q1 q2 q3 o e=>s4 _ _ (eu a q1 q2 q3 o e),?_,?_},?_}
    ·rw[eF,eq,ax];show (d8 Ms (itR Ms r i).1).1.pd.length<=_;show _<=1000000+5000*((itR Ms r i).2.length+1);simp only[aR,cw]at fa;omega
    ·rw[<- l3];exact g
    ·rw[el]
     rcases g with⟨_,rfl⟩|⟨e,_,he⟩
     ·rw[Dj rfl rfl (s4 _ _ M),ax];simp only[aR,cw];omega
     ·obtain⟨t,rfl⟩:=he.ref;rw[Dk rfl];omega
   ·rw[eq]at tl fa;have tl:v=.non:=tl;subst tl;refine cy ?_;refine{_,rfl,_,rfl,gu (B0 ?_)};dsimp only;have O:iC CC CS Ms Hb (ex.add rl) G2 co m sl pl (itR Ms r (i+1)).1:=c2;have W:aJ (RcIn (Hid (ex.add rl) G2)) Y (itR Ms r (i+1)).2:=by
     rw[eF,eq,cq];exact Paired.mono (fun _ _ z=>z.same f2) fe
    have l3:=aO W;refine cZ ?_;obtain⟨dx,fs,J,fx,eL⟩:=ez O;refine{_,rfl,co,dx,fs,rfl,J,fx,_,rfl,_,rfl,rl,_,rfl,.inl (SqL.of fy),_,_,rfl,rfl,Ms,Hb,ex.add rl,co,m,sl,pl,_,_,rfl,O,fun eH G4 s4 g=>?_};refine bK ?_;dsimp only;have ey:∃e,gz (itR Ms r (i+1)).1 (Z-(Y.length:Int))=some e/\j0 (Hid (ex.add rl) G4) eH e:=by
     rcases g with⟨z,_⟩|z
     ·have y:gz (itR Ms r (i+1)).1 (Z-(Y.length:Int))=some (.stp sp):=N6 ee;rw[y]at z
      cases z
     ·exact z
    refine{{i+1,eH,_,_,rfl,em,O.same s4,s4 _ _ fy,Paired.mono (fun _ _ z=>z.same (gA s4)) W,(f1.trans f2).trans (gA s4),fun a q1 q2 q3 o e=>s4 _ _ (ew a q1 q2 q3 o e),?_,?_},?_}
    ·rw[eF,eq,cq];show (d8 Ms (itR Ms r i).1).1.pd.length<=1000000+5000*(itR Ms r i).2.length;simp only[cw]at fa;omega
    ·rw[<- l3];exact .inr ey
    ·rw[el];obtain⟨e,_,he⟩:=ey;obtain⟨t,rfl⟩:=he.ref;rw[Dk rfl];omega
  ·obtain⟨t0,rfl⟩:=ft.ref;refine{_,rfl,_,rfl,gu ?_};dsimp only;refine gk ?_;refine{_,rfl,_,rfl,lt2,fun t ht=>?_};have fk:=aH ht (.tup [.ref rl,.ref t0]);have f5:aY (Hid (ex.add rl) G) (Hid ex (upd G t (.tup [.ref rl,.ref t0]))):=(gA fk).trans AE;have eb:rl∉ex:=fun z=>by
    obtain⟨o,e,_⟩:=c.nt rl z;rw[U]at e
    cases e
   have eh:∀a∈ex,∃o,upd G t (.tup [.ref rl,.ref t0]) a=some o/\∀xs,o≠.tup xs:=fun a ha=>by
    obtain⟨o,e,n⟩:=c1.nt a (Ex.more ha);exact{o,fk _ _ e,n}
   exact k _ t i e {⟨hj,hd,c1.ok⟩,(c1.same fk).less n1 n2 n3,f1.trans f5,fun a q1 q2 q3 o e=>fk _ _ (ej a q1 q2 q3 o e),rl,_,Y,gF eh ah,by rw[eA eb];exact fk _ _ fo,U,Paired.mono (fun _ _ z=>z.same f5) fe,ft.same f5}
 ·rintro σ G4 Q1 Q2 hq ⟨x,hx,c,ec,z⟩;exact{x,hx,c,ec,hq _ _ z}
end
def st0(M:MD):Sta:={M.ps,M.qs.map fun q=>(q,[]),0,0}
def oY(es:List Ev):List Ev:=es.mapIdx fun i e=>atP e i
def cI(Ms:List MD)(es:List Ev):RS:={Ms.map st0,lV (oY es) [],none,none}
theorem ny{Z Y:Type}{R:Z->Y->Prop}:∀{xs:List Z} {ys:List Y},xs.length=ys.length->(∀(i:Nat) x y,xs[i]?=some x->ys[i]?=some y->R x y)->aJ R xs ys
 | [],[],_,_=>.nil
 | [],_::_,l,_=>by cases l
 |_::_,[],l,_=>by cases l
 |x::xs,y::ys,l,h=>.cons (h 0 x y rfl rfl) (ny (by simpa using l) fun i a b ha hb=>h (i+1) a b (by simpa using ha) (by simpa using hb))
theorem oz(es:List Ev):(oY es).length=es.length:=List.length_mapIdx
theorem qT{es:List Ev}{i:Nat}{x:Ev}(h:(oY es)[i]?=some x):∃e,es[i]?=some e/\x=atP e i:=by
 unfold oY at h;rw[List.getElem?_mapIdx]at h
 cases z:es[i]? with
 |none=>
  rw[z]at h
  cases h
 |some e=>
  rw[z]at h
  cases h;exact⟨e,rfl,rfl⟩
theorem Dl(es:List Ev):(oY es).Pairwise (fun a b=>a.key≠b.key):=by
 refine dC.mpr fun i j hi Z lt=>?_;obtain⟨e,_,h1⟩:=qT (es:=es) (i:=i) (x:=(oY es)[i]) (aE hi);obtain⟨e',_,h2⟩:=qT (es:=es) (i:=j) (x:=(oY es)[j]) (aE Z);rw[h1,h2];refine nv (.inr ?_);show (i:Int)≠(j:Int);omega
theorem Do{Ms:List MD}{es:List Ev}(h:∀e∈es,q8 Ms.length e):ROk Ms.length (cI Ms es):=by
 refine{av _,kY List.Pairwise.nil (fun x _ y hy=>by cases hy) (Dl es),fun e Z=>?_,fun e Z=>?_}
 ·rcases bM.mp ((eG _ _).mem_iff.mp Z) with z|z
  ·obtain⟨i,hi⟩:=dH z;obtain⟨e',h',rfl⟩:=qT hi;obtain⟨a,b,c,d,f⟩:=h e' (cA h');exact⟨a,b,c,d,f⟩
  ·cases z
 ·rcases bM.mp ((eG _ _).mem_iff.mp Z) with z|z
  ·obtain⟨i,hi⟩:=dH z;obtain⟨e',h',rfl⟩:=qT hi;exact .inl rfl
  ·cases z
theorem New.sta{H H':Hp}{CS st dx bd qd:aa}{Z:List aa}{M:MD}(N:New H H' CS st M.ps M.qs dx bd qd Z)(nb:(M.ps.map (·.1)).Nodup)(nq:M.qs.Nodup):StA CS H' st (st0 M):=by
 have inj:∀xs:List Str,xs.Nodup->(xs.map (Sum.inr:Str->Key)).Nodup:=fun xs h=>List.Pairwise.map _ (fun a b z y=>z (kf y)) h;refine{dx,bd,qd,M.qs.zip Z,N.hst,?_,?_,?_}
 ·have z:H' bd=some (.dK (rB (boK M.ps) [])):=N.hbd;have e:rB (boK M.ps) []=boK M.ps:=by
   rw[BK]
   ·exact kZ _
   ·rw[kZ];unfold boK;rw[dR];have:=inj _ nb;rw[dR]at this;exact this
  rw[e]at z;exact z
 ·have z:H' qd=some (.dK (rB (quK (M.qs.zip Z)) [])):=N.hqd;have e:rB (quK (M.qs.zip Z)) []=quK (M.qs.zip Z):=by
   rw[BK]
   ·exact kZ _
   ·rw[kZ];unfold quK;rw[dR];have e1:(M.qs.zip Z).map ((fun x:Key×V=>x.1) ∘ fun p:Str×aa=>((Sum.inr p.1:Key),V.ref p.2))=((M.qs.zip Z).map (·.1)).map (Sum.inr:Str->Key):=by
     rw[dR];rfl
    rw[e1,List.map_fst_zip (by rw[N.len];exact ay _)];exact inj _ nq
  rw[e]at z;exact z
 ·refine ny ?_ fun i x y hx hy=>?_
  ·show _=((M.qs.map fun q=>(q,([]:List Int)))).length;rw[qq,av,N.len,Nat.min_self]
  ·have hx:=yV.mp hx;have hy:(M.qs.map fun q=>(q,([]:List Int)))[i]?=some y:=hy;rw[cC,hx.1]at hy
   cases hy;exact{rfl,(N.li _ (cA hx.2)).2}
theorem iU{H:Hp}{a:aa}(n:H a=none):a∉({[],H}:Ex):=fun z=>z.elim (fun y=>by cases y) fun⟨o,e,_⟩=>by
 have e:H a=some o:=e;rw[n]at e
 cases e
theorem New.hid{H0 H H':Hp}{CS st dx bd qd:aa}{Z:List aa}{ps:List (Str×Int)}{qs:List Str}(s:aY H0 H)(N:New H H' CS st ps qs dx bd qd Z):New (fun _=>none) (Hid {[],H0} H') CS st ps qs dx bd qd Z:=
 {by rw[eA (iU (none_of s N.ost))];exact N.hst,by rw[eA (iU (none_of s N.obd))];exact N.hbd,by rw[eA (iU (none_of s N.oqd))];exact N.hqd,N.len,N.nd,fun l hl=>{rfl,by rw[eA (iU (none_of s (N.li l hl).1))];exact (N.li l hl).2},rfl,rfl,rfl,N.ne,fun a o e=>by cases e}
theorem Ib{H G G':Hp}{l:List aa}(s:aY G G'):aY (Hid ⟨l,H⟩ G) (Hid {[],H} G'):=fun a o e=>by
 have Z:a∉({[],H}:Ex):=fun z=>gO e (z.elim (fun y=>by cases y) .inr);rw[eA Z];exact s _ _ (dh _ _ e)
theorem w6{H G G':Hp}{l:List aa}(s:aY G G')(n:∀a∈l,G a=none):aY (Hid {[],H} G) (Hid ⟨l,H⟩ G'):=fun a o e=>by
 have e':=dh _ _ e;have Z:a∉(⟨l,H⟩:Ex):=fun z=>z.elim (fun y=>by rw[n a y]at e';cases e') fun y=>gO e (.inr y);rw[eA Z];exact s _ _ e'
theorem MoI.wk0{m:Int}{H:Hp}{v:V}{M:MD}(h:MoI m H v M):qx M.bs M.qs (st0 M).w:=by
 have Y:(10:Int)^15=1000000000000000:=by decide
 refine{h.kb,?_,h.nb,h.nq,fun p hp=>?_,fun p hp=>?_,iX,(fun x hx=>by cases hx),iX,(fun x hx=>by cases hx),(fun x hx=>by cases hx),?_}
 ·show (M.qs.map fun q=>(q,([]:List Int))).map (·.1)=_;rw[dR];exact List.map_id _
 ·exact h.wb p hp
 ·obtain⟨q,_,rfl⟩:=cH.mp hp;exact{bV _,fun n Z=>by cases Z}
 ·rw[ax];have:=h.lb;have:=h.lq;omega
section
variable{P:aK}{w:bD}{K:ae}{mg:Str->Option af}{base:cB}{f fI fF fPf fA fR fBk CC CM CS CB:aa}{fd fdI fdF fdPf fdA fdR fdBk:bU}
seal PS PSs PE PA PT PW PI PG PGs PC
inductive LP(CC:aa)(vs:List V)(H:Hp)(Q:VK)(_e:XK):Prop where
 |mk(b dx:aa)(m s p:V)(_:vs=[.ref b,m,s,p])(_:H b=some (.ins CC dx []))(_:∀G,G b=some (.ins CC dx (ij m s p .non .non))->But b H G->Q .non G):LP CC vs H Q _e
def N7(CC:aa):Sp:=fun vs H Q Z=>LP CC vs H Q Z
theorem scCI:bO ["self","model","states","pending"] ["self","model","states","pending"] (aN m9):={}
theorem uQ(F:Fun K "__init__" "Course.__init__" m9 f fd)(T:CoT K mg CC):bC P w K mg base CX0 1 f fd ["self","model","states","pending"] (N7 CC):=by
 refine F.ok scCI (fun vs H Q E h=>?_) (fun Z A outer s H vs Q E hr h=>?_)
 ·obtain⟨b,dx,m,s',p,rfl,_⟩:=h;rfl
 obtain⟨b,dx,m,s',p,rfl,hb,k⟩:=h;refine{_,aj (eP (pv 0) (pv 1) rfl) (aj (eP (pv 0) (pv 2) rfl) (aj (eP (pv 0) (pv 3) rfl) (aj (eP (pv 0) yw rfl) (aD (eP (pv 0) yw rfl))))),?_};have Y:=hJ "model" m [];have W:=hJ "states" s' (cJ "model" m []);have V:=hJ "pending" p (cJ "states" s' (cJ "model" m []));have U:=hJ "reached" .non (cJ "pending" p (cJ "states" s' (cJ "model" m [])));simp only[cw]at Y;refine{_,rfl,_,rfl,b,CC,dx,[],rfl,hb,T.cl,T.nM,(by show 0<1000;decide),_,rfl,_,rfl,b,CC,dx,_,rfl,ah,T.cl,T.nS,(by omega),_,rfl,_,rfl,b,CC,dx,_,rfl,ah,T.cl,T.nP,(by omega),?_};refine{_,rfl,b,CC,dx,_,rfl,ah,T.cl,T.nR,(by omega),_,rfl,b,CC,dx,_,rfl,ah,T.cl,T.nE,(by omega),?_};rw[N1];exact k _ ah (((((But.upd b H _).trans (But.upd b _ _)).trans (But.upd b _ _)).trans (But.upd b _ _)).trans (But.upd b _ _))
inductive Ic(CC CM CS:aa)(vs:List V)(H:Hp)(Q:VK)(_e:XK):Prop where
 |mk(Ms:List MD)(m sgl:aa)(svs:List V)(es:List Ev)(_:vs=[.ref m,.ref sgl])(_:vg CM Ms H m)(_:Ms.length<1000)(_:H sgl=some (.lst svs))(_:aJ (pO H) svs es)(_:es.length<64)(_:(∀e∈es,q8 Ms.length e))(_:∀(G:Hp) (co sl pl:aa),iC CC CS Ms H ⟨[co,sl,pl],H⟩ G co m sl pl (cI Ms es)->Q (.ref co) G):Ic CC CM CS vs H Q _e
def Dp(CC CM CS:aa):Sp:=fun vs H Q Z=>Ic CC CM CS vs H Q Z
abbrev nCa:List Str:=["model","signs","states"]
theorem scCa:bO nCa ["model","signs"] (aN fv):={}
theorem ndCa:((["at"]:List Str)++nCa).Nodup:=by decide +kernel
theorem zm(D:Df K mg "course_at_first" fv ["model","signs"] f fd)(DF:Df K mg "first_state" j7 ["model","at"] fF fdF)(GF:bC P w K mg base CX0 3 fF fdF ["model","at"] (Ar CM CS))(gl:Df K mg "pending_at_first" gi ["signs"] fPf fdPf)(ec:bC P w K mg base CX0 1 fPf fdPf ["signs"] HM)
  (MC:Mk K CC fI) (bI:Binds K fdI ["self","model","states","pending"] []) (GI:bC P w K mg base CX0 1 fI fdI ["self","model","states","pending"] (N7 CC)) (T:CoT K mg CC) (TM:MdT K mg CM CS) (B:Bl mg) (BS:mg "sorted"=none) :
  bC P w K mg base CX0 4 f fd ["model","signs"] (Dp CC CM CS):=by
 refine D.F.ok scCa (fun vs H Q E h=>?_) (fun dL A outer s H vs Q E hr h=>?_)
 ·obtain⟨Ms,m,fx,eL,es,rfl,_⟩:=h;rfl
 obtain⟨Ms,m,fx,eL,es,rfl,hM,eb,el,eh,dG,eH,k⟩:=h;have hu:=mC hr;have ed:=Eu hr;have h5:=jE (Fe (by decide:5<=50) _) ed;have r1:cX 1 _:=hr.mono (by decide);have r2:cX 2 _:=hr.mono (by decide);have r3:cX 3 _:=hr.mono (by decide);refine{_,aj (yW (i:=2) ["at"] (iH.open (NN:=nCa) (N:=nCa) (sc:=aN fv) rfl rfl (by decide +kernel) rfl (by decide +kernel) (by decide +kernel) rfl (by decide +kernel)) rfl scCa.nd rfl (Or.inl rfl) (jV (by rfl) B.range (aq (cO (eB K (by rfl)) (by rfl) B.len cb (aq (eE K (by rfl) (pv 0) (by rfl)) ai)) ai)) (fun _ _ _ _=>dS (i:=0) ndCa rfl (Or.inl rfl)) (fun _ _ _ _=>kT)
   (fun _ _ _ _=>aM GF r3 (by rfl) DF.m DF.F.kp DF.b .nil bh (aq (pv 1) (aq (pv 0) ai))))
  (aD (bQ (iN MC GI r2 (by rfl) T.m bI .nil bh (aq (pv 0) (aq (pv 2) (aq (GV h5 (by rfl) BS (aq (aM ec r1 (by rfl) gl.m gl.F.kp gl.b .nil bh (aq (pv 1) ai)) ai) nC) ai)))))),?_}
 obtain⟨ep,ml,fs,hm,ft,xs,fy,gd⟩:=id hM;have ey:xs.length=Ms.length:=aO gd;have big:=eD;refine cy (cZ ?_);refine EL (K:=K) (ms:=xs) rfl hm TM.clM TM.nM ft fy (by omega) (fun i ys G=>∃g:List aa,ys=g.map V.ref/\aY H G/\aJ (StA CS (Hid {[],H} G)) g ((Ms.take i).map st0)) {[],rfl,aY.refl _,by rw[jS];exact .nil} ?_ ?_ ?_
 ·rintro i ys G hi ⟨g,rfl,Z,p1⟩;have:=aO p1;rw[av,cM]at this;rw[av];omega
 ·rintro i ys G hi ⟨g,rfl,Z,p1⟩;obtain⟨Mi,fk⟩:∃M,Ms[i]?=some M:={_,aE (by omega)};obtain⟨x,hx,mo⟩:=jw gd fk;obtain⟨t,bl,ql,n0,x3,x4,vb,rfl,g1,g2,g3,g4⟩:=mo.fs;refine{rfl,?_};unfold xu;refine iA ?_;have lb:Mi.ps.length<=100:=by
   have e:=congrArg iW mo.kb;rw[av]at e;have:=mo.lb;omega
  have lq:Mi.qs.length<=100:=by
   have:=mo.lq;omega
  refine{_,rfl,_,rfl,m,ep,ml,t,bl,ql,fs,n0,x3,x4,i,xs,vb,Mi.ps,Mi.qs,by rw[Int.zero_add];rfl,Z _ _ hm,ft,Z _ _ fy,hx,Z _ _ g1,Z _ _ g2,g3.same Z,lb,Z _ _ g4,lq,fun st dx bd qd ls G' N=>?_};refine{g++[st],by rw[cu];rfl,Z.trans N.same,?_};rw[fZ,fk,cu];exact eN (Paired.mono (fun _ _ z=>jP.same' (gA N.same) z) p1) ((N.hid Z).sta (by rw[mo.kb];exact mo.nb) mo.nq)
 rintro ys G ⟨g,rfl,Z,p1⟩;rw[ey,eg]at p1;intro sl ge;have Y:=aH ge (.lst (g.map V.ref));refine bK ?_;dsimp only;refine gk (uh ?_);have em:=none_of Z ge;refine{_,rfl,_,rfl,_,rfl,fx,eL,es,rfl,Y _ _ (Z _ _ el),Paired.mono (fun _ _ z=>(z.same Z).same Y) eh,by omega,fun G1 l0 ys W dV ei ly hy=>?_};have ek:aJ (hZ G1) ys (oY es):=ny (by rw[oz];exact ly) fun i y e ee he=>by
  obtain⟨e',h',rfl⟩:=qT he;exact hy i y e' ee h'
 obtain⟨z1,z2,z3⟩:=wX ek;refine{l0,(ys.zip (oY es)).map fun u=>(u.1,u.2.key),rfl,?_,fun z hz=>?_,?_,?_,fun pl et gr pm fz=>?_}
 ·rw[dR];have:((fun x:V×List Int=>x.1) ∘ fun u:V×Ev=>(u.1,u.2.key))=(fun u:V×Ev=>u.1):=rfl;rw[this,z1];exact ei
 ·obtain⟨u,hu,rfl⟩:=cH.mp hz;exact BY (z3 u hu)
 ·rw[dR];have:((fun x:V×List Int=>x.2) ∘ fun u:V×Ev=>(u.1,u.2.key))=Ev.key ∘ (fun u:V×Ev=>u.2):=rfl;rw[this,<- dR,z2];exact jT.mpr (Dl es)
 ·rw[av,qq,oz];omega
 obtain⟨ps,ef,ez⟩:=yl (F:=G1) (us:=ys.zip (oY es)) (es:=lV (oY es) []) (zs:=et) z3 pm fz (by
  rw[z2];have:=eG (oY es) [];rw[cq]at this;exact this.symm) (Do eH).fall
 rw[ef];have I:=aH gr (.lst ps);have gq:=W _ _ (ah:upd G sl (.lst (g.map V.ref)) sl=_);have eo:sl≠pl:=aw gq gr;intro co fo U er ea;have O:=I _ _ gq;have J:upd G1 pl (.lst ps) pl=some (.lst ps):=ah;have ej:sl≠co:=aw O U;have ew:pl≠co:=aw J U;have sA:aY H (upd G1 pl (.lst ps)):=(Z.trans (Y.trans W)).trans I;refine{co,fo,_,_,_,rfl,ah,fun G' fa but=>{rfl,?_}};have sB:aY (upd G1 pl (.lst ps)) G':=fun a o e=>but _ _ (aT (aT e (aw e er)) (aw e U)) (aw e U);have eu:H co=none:=none_of sA U;have eF:H pl=none:=none_of (Z.trans (Y.trans W)) gr;have fG:∀a∈[co,sl,pl],G a=none:=fun a ha=>by
  simp only[ar,aV,or_false]at ha
  rcases ha with rfl|rfl|rfl
  ·exact none_of ((Y.trans W).trans I) U
  ·exact ge
  ·exact none_of (Y.trans W) gr
 have sG:aY (Hid {[],H} G) (Hid {[co,sl,pl],H} G'):=w6 (((Y.trans W).trans I).trans sB) fG;have fe:∀a∈({[co,sl,pl],H}:Ex),∃o,G' a=some o/\∀xs,o≠.tup xs:=fun a ha=>by
  rcases ha with ha|⟨o,e,n⟩
  case inr=>exact{o,(sA.trans sB) _ _ e,n}
  have ha:a∈[co,sl,pl]:=ha;simp only[ar,aV,or_false]at ha
  rcases ha with rfl|rfl|rfl
  ·exact{_,fa,fun xs z=>by cases z}
  ·exact{_,sB _ _ O,fun xs z=>by cases z}
  ·exact{_,sB _ _ J,fun xs z=>by cases z}
 refine k G' co sl pl {Do eH,fun b o e=>{aw e eu,aw e em,aw e eF,(sA.trans sB) _ _ e},.inl (by simp),.inl (by simp),.inl (by simp),ej.symm,ew.symm,eo,{fo,_,_,fa,rfl,rfl},{g,sB _ _ O,Paired.mono (fun _ _ z=>jP.same' sG z) p1},{ps,sB _ _ J,Paired.mono (fun _ _ z=>hZ.hid fe (z.same (I.trans sB))) ez},fun i M s hi hs=>?_,fe};have hs:(Ms.map st0)[i]?=some s:=hs;rw[cC,hi]at hs
 cases hs;obtain⟨x,_,mo⟩:=jw gd hi;exact mo.wk0
structure N8(CB CS:aa)(G:Hp)(b:aa)(q:RS×List Rec)(e:End):Prop where
 ex:∃(dx rl sl:aa) (en:V) (rvs:List V) (ss:List aa),G b=some (.ins CB dx (HN (.ref rl) en (.ref sl)))/\G rl=some (.lst rvs)/\aJ (RcIn G) rvs q.2/\j0 G en e/\G sl=some (.lst (ss.map V.ref))/\aJ (StA CS G) ss q.1.sts
inductive Ie(CM CS CB:aa)(vs:List V)(H:Hp)(Q:VK)(_e:XK):Prop where
 |mk(Ms:List MD)(m sgl:aa)(svs:List V)(es:List Ev)(most:Int)(_:vs=[.ref m,.ref sgl,.int most])(_:vg CM Ms H m)(_:Ms.length<1000)(_:H sgl=some (.lst svs))(_:aJ (pO H) svs es)(_:es.length<64)(_:(∀e∈es,q8 Ms.length e))(_:most<=1000)(_:∀(G:Hp) (b:aa) (i:Nat) (e:End),aY H G->jg Ms (cI Ms es) most i e->N8 CB CS (Hid ⟨[],H⟩ G) b (itR Ms (cI Ms es) i) e->Q (.ref b) G):Ie CM CS CB vs H Q _e
def Ig(CM CS CB:aa):Sp:=fun vs H Q Z=>Ie CM CS CB vs H Q Z
theorem N9:bO ["model","signs","most","course","told"] ["model","signs","most"] (aN vG):={}
theorem Oa(D:Df K mg "plain" vG ["model","signs","most"] f fd)(DA:Df K mg "course_at_first" fv ["model","signs"] fA fdA)(GA:bC P w K mg base CX0 4 fA fdA ["model","signs"] (Dp CC CM CS))(DR:Df K mg "run_on" lN ["course","most"] fR fdR)(GR:bC P w K mg base CX0 39 fR fdR ["course","most"] (AF CC CM CS))
  (MB:Mk K CB fBk) (bB:Binds K fdBk ["self","records","ending","states"] []) (GB:bC P w K mg base CX0 1 fBk fdBk ["self","records","ending","states"] (NW CB)) (TB:BkT K mg CB) (T:CoT K mg CC) :
  bC P w K mg base CX0 40 f fd ["model","signs","most"] (Ig CM CS CB):=by
 refine D.F.ok N9 (fun vs H Q E h=>?_) (fun cp A outer s H vs Q E hr h=>?_)
 ·obtain⟨Ms,m,g,U,es,Y,rfl,_⟩:=h;rfl
 obtain⟨Ms,m,g,U,es,Y,rfl,hM,I,dc,cx,cr,cs,V,k⟩:=h;have r2:cX 2 _:=hr.mono (by decide);have r4:cX 4 _:=hr.mono (by decide);refine{_,aj (bE (i:=3) N9.nd rfl (Or.inl rfl) (aM GA r4 (by rfl) DA.m DA.F.kp DA.b .nil bh (aq (pv 0) (aq (pv 1) ai))))
  (aj (bE (i:=4) N9.nd rfl (Or.inl rfl) (aM GR hr (by rfl) DR.m DR.F.kp DR.b .nil bh (aq (pv 3) (aq (pv 2) ai))))
  (aD (bQ (iN MB GB r2 (by rfl) TB.m bB .nil bh (aq (bR cv (pv 4) au (fun _ _=>rfl)) (aq (bR cv (pv 4) au (fun _ _=>rfl)) (aq (cU (pv 3) rfl) ai))))))),?_}
 refine cy (cZ ?_);refine{_,rfl,_,rfl,Ms,m,g,U,es,rfl,hM,I,dc,cx,cr,cs,fun G co sl pl c=>?_};refine bK ?_;dsimp only;refine cy (cZ ?_);refine{_,rfl,_,rfl,Ms,H,{[co,sl,pl],H},co,m,sl,pl,_,Y,rfl,hM,c,V,?_,fun J t i e R=>?_}
 ·show (lV (oY es) []).length<=1000000;rw[(eG _ _).length_eq,cq,oz];omega
 refine bK ?_;dsimp only;obtain⟨rl,en,di,h1,h2,_,h3,h4⟩:=R.rs;obtain⟨dx,rv,sv,h5,_⟩:=R.cc.hc;obtain⟨ss,h6,h7⟩:=R.cc.hs;have hl:aY (Hid {[co,sl,pl],H} J) J:=dh;have M:aY H J:=fun a o e=>(R.cc.sm a o e).2.2.2;have de:H sl=none:=by
  cases z:H sl with
  |none=>rfl
  |some o=>exact absurd rfl (R.cc.sm _ _ z).2.1
 refine gk (uh ?_);refine{_,rfl,t,_,_,_,rfl,rfl,SqT.of (hl _ _ h1),rfl,_,rfl,t,_,_,_,rfl,rfl,SqT.of (hl _ _ h1),rfl,_,rfl,co,CC,dx,_,_,rfl,h5,T.cl,T.nS,HV _ _ _ _ _,fun b O hb dj nb=>{b,O,_,_,_,rfl,ah,fun G' da but=>{rfl,?_}}};have W:aY J G':=fun a o e=>but _ _ (aT (aT e (aw e dj)) (aw e hb)) (aw e hb);have Z:aY (Hid {[co,sl,pl],H} J) (Hid {[],H} G'):=Ib W;exact k G' b i e (M.trans W) R.st {O,rl,sl,en,di,ss,by rw[eA (iU (none_of M hb))];exact da,Z _ _ h2,Paired.mono (fun _ _ z=>z.same Z) h3,h4.same Z,by rw[eA (iU de)];exact W _ _ h6,Paired.mono (fun _ _ z=>jP.same' Z z) h7}
end
section
variable{P:aK}{w:bD}{K:ae}{mg:Str->Option af}{base:cB}{f fM fD:aa}{fd fdM fdD:bU}
def Dq:Sp:=fun vs H Q _=>∃c k:Int,vs=[.int c,.int k]/\fb c<=1048576/\∀r:Int,Q (.int r) H
theorem ET(x:Int):-(2^64)<x%2147483629/\x%2147483629<2^64:=by
 have h1:=lT x (show (2147483629:Int)≠0 by decide);have h2:=jI x (show (0:Int)<2147483629 by decide);omega
theorem scM:bO ["_law_cell","_law_k","_law_number"] ["_law_cell","_law_k"] (aN mK):={}
theorem Ih(D:Df K mg "_law_mixed" mK ["_law_cell","_law_k"] f fd):bC P w K mg base CX0 1 f fd ["_law_cell","_law_k"] Dq:=by
 refine D.F.ok scM (fun vs H Q E h=>?_) (fun Z A outer s H vs Q E hr h=>?_)
 ·obtain⟨c,k,rfl,_⟩:=h;rfl
 obtain⟨c,k,rfl,hc,q⟩:=h;refine{_,aj (bE (i:=2) scM.nd rfl (Or.inl rfl) (cL rH (cL rG (cL gK (cL gK (cL gK (cL JB (pv 0) (pv 0)) (cL rG au (pv 0))) (cL rG au (pv 1))) au) au) au))
  (aD (bQ (cL rH (cL gK (cL rG (pv 2) (pv 2)) au) au))),?_}
 refine{_,rfl,_,rfl,_,_,rfl,rfl,.of_bits hc hc,_,rfl,_,_,rfl,rfl,.inl {by decide,by decide},_,_,rfl,rfl,_,rfl,_,_,rfl,rfl,.inl {by decide,by decide},_,_,rfl,rfl,_,_,rfl,rfl,_,_,rfl,rfl,.inr {by decide,by decide},_,_,rfl,rfl,(by show (0:Int)<2147483629;decide),?_};refine{_,rfl,_,rfl,_,_,rfl,rfl,.inl (ET _),_,_,rfl,rfl,_,_,rfl,rfl,(by show (0:Int)<2147483587;decide),?_};exact q _
def dE(H:Hp)(p:aa):Prop:=∃x y:Int,H p=some (.lst [.int x,.int y])
theorem dE.same{H H':Hp}{p:aa}(a:dE H p)(b:aY H H'):dE H' p:=by
 obtain⟨x,y,e⟩:=a;exact{x,y,b _ _ e}
inductive Dt(vs:List V)(H:Hp)(Q:VK)(_e:XK):Prop where
 |mk(p:aa)(n:Int)(_:vs=[.ref p,.int n])(_:dE H p)(_:0<n)(_:n<2^64)(_:∀(r:Int) (H':Hp),0<=r->r<n->dE H' p->But p H H'->Q (.int r) H'):Dt vs H Q _e
def j5:Sp:=fun vs H Q Z=>Dt vs H Q Z
theorem scD:bO ["_law_purse_here","_law_out_of","_law_drawn"] ["_law_purse_here","_law_out_of"] (aN eJ):={}
theorem j9(D:Df K mg "_law_draw" eJ ["_law_purse_here","_law_out_of"] f fd):bC P w K mg base CX0 1 f fd ["_law_purse_here","_law_out_of"] j5:=by
 refine D.F.ok scD (fun vs H Q E h=>?_) (fun V A outer s H vs Q E hr h=>?_)
 ·obtain⟨p,n,rfl,_⟩:=h;rfl
 obtain⟨p,n,rfl,⟨x,y,hp⟩,Y,W,q⟩:=h;refine{_,aj (cW (bN fh (bR dB (pv 0) au (fun _ _=>rfl)) au (bY _)) (aD (rF (bR dB (pv 0) au (fun _ _=>rfl)) (yA (pv 0) au sI))) cj)
  (aj (bE (i:=2) scD.nd rfl (Or.inl rfl) (cL rH (bR dB (pv 0) au (fun _ _=>rfl)) (pv 1)))
  (aj (rF (cL wz (bR dB (pv 0) au (fun _ _=>rfl)) (pv 1)) (yA (pv 0) au sI))
  (aD (bQ (pv 2))))),?_}
 refine{_,rfl,p,_,_,_,rfl,rfl,SqL.of hp,rfl,rfl,_,rfl,?_};refine gH (fun c=>?_) (fun c=>?_)
 ·refine{_,rfl,p,_,_,_,rfl,rfl,SqL.of hp,rfl,_,rfl,p,_,_,_,rfl,rfl,hp,rfl,?_};have Z:upd H p (.lst [.int y,.int y]) p=some (.lst [.int y,.int y]):=ah;refine{_,rfl,p,_,_,_,rfl,rfl,SqL.of Z,rfl,_,rfl,_,_,rfl,rfl,Y,?_};refine{_,rfl,p,_,_,_,rfl,rfl,SqL.of Z,rfl,_,rfl,_,_,rfl,rfl,⟨Y,W⟩,_,rfl,p,_,_,_,rfl,rfl,Z,rfl,?_};refine{_,rfl,?_};exact q _ _ (lT _ (by omega)) (jI _ Y) {_,_,ah} ((But.upd p H _).trans (But.upd p _ _))
 ·refine{_,rfl,p,_,_,_,rfl,rfl,SqL.of hp,rfl,_,rfl,_,_,rfl,rfl,Y,?_};refine{_,rfl,p,_,_,_,rfl,rfl,SqL.of hp,rfl,_,rfl,_,_,rfl,rfl,⟨Y,W⟩,_,rfl,p,_,_,_,rfl,rfl,hp,rfl,?_};refine{_,rfl,?_};exact q _ _ (lT _ (by omega)) (jI _ Y) {_,_,ah} (But.upd p H _)
inductive AG(K:ae)(vs:List V)(H:Hp)(Q:VK)(_e:XK):Prop where
 |mk(a:aa)(ns:List Int)(_:vs=[.ref a])(_:SqL K H a (ns.map V.int))(_:ns.length<=63)(_:(∀x∈ns,fb x<=1048576))(_:∀(p:aa) (H':Hp),H p=none->dE H' p->aY H H'->Q (.ref p) H'):AG K vs H Q _e
def Du(K:ae):Sp:=fun vs H Q Z=>AG K vs H Q Z
theorem scP:bO ["_law_script","_law_cells","_law_number","_law_k"] ["_law_script"] (aN mO):={}
theorem Kk{xs:List V}{lo hi:Option Int}{v:V}(h:v∈pG xs lo hi):v∈xs:=by
 unfold pG at h;exact List.mem_of_mem_drop (Di h)
theorem Ob{xs:List V}(h:xs≠[])(z:Int):∃v,atI xs (z%(xs.length:Int))=some v/\v∈xs:=by
 have hl:0<xs.length:=EU.mpr h;have h0:=lT z (show (xs.length:Int)≠0 by omega);have h1:=jI z (show (0:Int)<(xs.length:Int) by omega);obtain⟨j,Y⟩:∃j:Nat,z%(xs.length:Int)=(j:Int):={(z%(xs.length:Int)).toNat,by omega};rw[Y]at h1 |-;have Z:j<xs.length:=by omega
 exact{xs[j],jD (aE Z),vF Z}
theorem Ii(D:Df K mg "_law_purse" mO ["_law_script"] f fd)(DM:Df K mg "_law_mixed" mK ["_law_cell","_law_k"] fM fdM)(B:Bl mg):bC P w K mg base CX0 2 f fd ["_law_script"] (Du K):=by
 have GM:bC P w K mg base CX0 1 fM fdM ["_law_cell","_law_k"] Dq:=Ih DM;refine D.F.ok scP (fun vs H Q E h=>?_) (fun bv A outer s H vs Q E hr h=>?_)
 ·obtain⟨a,ns,rfl,_⟩:=h;rfl
 obtain⟨a,ns,rfl,hS,M,O,q⟩:=h;refine{_,aj (bE (i:=1) scP.nd rfl (Or.inl rfl) (cL wc (sE yN (pv 0) vm (vn au)) (eQ (aq au ai))))
  (aj (bE (i:=2) scP.nd rfl (Or.inl rfl) au)
  (aj (jA cY rfl (jV rfl B.range (aq au ai)) (dS (i:=3) scP.nd rfl (Or.inl rfl))
   (aD (bE (i:=2) scP.nd rfl (Or.inl rfl) (cL gK (cL rG (pv 2) au) (aM GM hr rfl DM.m DM.F.kp DM.b .nil bh (aq (bR dB (pv 1) (cL rH (pv 3) (cO ic (by rfl) B.len cb (aq (pv 1) ai))) (fun _ _=>rfl)) (aq (pv 3) ai)))))))
  (aj (cW (bN fh (cL rH (bR dB (pv 1) au (fun _ _=>rfl)) au) au (bY _))
   (aD (bQ (eQ (aq (cO (xM rfl) (by rfl) B.max boot_max (aq (cL wz (bR dB (pv 1) au (fun _ _=>rfl)) au) (aq (cL jn (B9 yF au) (cL wz (bR dB (pv 1) au (fun _ _=>rfl)) au)) ai))) (aq (pv 2) ai))))) cj)
  (aD (bQ (eQ (aq (pv 2) (aq (pv 2) ai)))))))),?_}
 -- Z = script[:63] + [0]
 refine{_,rfl,_,rfl,a,_,rfl,hS,fun l hl=>{(by show 1<=aB;decide),fun m hm=>?_}};have bB:l≠m:=aw (ah:upd H l (.lst (pG (ns.map V.int) none (some 63))) l=_) hm;have cl:(pG (ns.map V.int) none (some 63)).length<=63:=dA (p5 _ _ _) (by rw[av];exact M);have bF:(pG (ns.map V.int) none (some 63)).length+[V.int 0].length<=aB:=by
  have z:64<=aB:=by decide
  rw[Br];omega
 refine{l,m,_,_,rfl,rfl,(by rw[aL bB];exact ah),ah,bF,fun c hc=>?_};generalize hcs:pG (ns.map V.int) none (some 63)++[V.int 0]=U at hc |-;have sc:aY H (upd (upd (upd H l (.lst (pG (ns.map V.int) none (some 63)))) m (.lst [.int 0])) c (.lst U)):=(aH hl _).trans ((aH hm _).trans (aH hc _));generalize hH:upd (upd (upd H l (.lst (pG (ns.map V.int) none (some 63)))) m (.lst [.int 0])) c (.lst U)=H1 at sc |-;have W:H1 c=some (.lst U):=by rw[<- hH];exact ah
 have Y:U≠[]:=by rw[<- hcs];simp
 have Z:∀v∈U,∃z:Int,v=.int z/\fb z<=1048576:=fun v hv=>by
  rw[<- hcs]at hv
  rcases bM.mp hv with z|z
  ·obtain⟨n,hn,rfl⟩:=cH.mp (Kk z);exact{n,rfl,O n hn}
  ·rw[aA.mp z];exact{0,rfl,by decide}
 -- number = 1; for k in range(150)
 refine{150,rfl,by decide,by decide,tO (n:=150) (fun i σ H2=>∃(z:Int) (v:Option V),σ=[some (.ref a),some (.ref c),some (.int z),v]/\H2=H1) {1,none,rfl,rfl} ?_ ?_}
 ·rintro i σ H2 hi ⟨z,v,rfl,rfl⟩;obtain⟨u,hu,bz⟩:=Ob Y (0+(i:Int));obtain⟨y,rfl,hy⟩:=Z u bz;have J:(0:Int)<(U.length:Int):=by
   have:=EU.mpr Y;omega
  refine{_,rfl,_,_,rfl,rfl,.inr {by decide,by decide},_,rfl,_,rfl,_,rfl,c,_,rfl,.inl (SqL.of W),_,_,rfl,rfl,J,c,_,_,_,rfl,rfl,SqL.of W,hu,_,rfl,y,_,rfl,hy,fun r=>?_};exact{_,_,rfl,rfl,_,_,rfl,rfl}
 ·rintro σ H2 ⟨z,v,rfl,rfl⟩;obtain⟨I,g⟩:∃I,U[0]?=some I:=by
   cases U with
   |nil=>exact absurd rfl Y
   |cons I r=>exact⟨I,rfl⟩
  obtain⟨y,rfl,hy⟩:=Z I (cA g);have a0:atI U 0=some (.int y):=jD (j:=0) g;refine{_,rfl,c,_,_,_,rfl,rfl,SqL.of W,a0,_,_,rfl,rfl,(by show (0:Int)<2;decide),rfl,_,rfl,?_};have two:Li y 2:={by decide,by decide};refine gH (fun _=>?_) (fun _=>?_)
  ·refine{_,rfl,c,_,_,_,rfl,rfl,SqL.of W,a0,_,_,rfl,rfl,two,_,rfl,_,rfl,c,_,_,_,rfl,rfl,SqL.of W,a0,_,_,rfl,rfl,two,_,_,rfl,rfl,_,_,rfl,_,rfl,lt2,fun p hp=>?_};exact q p _ (sc.free hp) {_,_,ah} (sc.trans (aH hp _))
  ·refine{_,rfl,_,rfl,lt2,fun p hp=>?_};exact q p _ (sc.free hp) {_,_,ah} (sc.trans (aH hp _))
end
section
variable{X:Cx}{es:List cS}{te:TE}{t:TA}
theorem AH{Z:List cS}{k:Nat}{p:Pos}{env:Env}:cE (.Tuple Z k p::es) env=(false,gf (.Tuple Z k p) env)::cE es env:=by rfl
theorem zo{Z:List cS}{k:Nat}{p:Pos}(ha:PE X (.Tuple Z k p) te)(hr:PA X es t):PA X (.Tuple Z k p::es) (lB te t):=aq ha hr (by rfl)
theorem Oc{Z:List cS}{p:Pos}(ha:PE X (.List Z p) te)(hr:PA X es t):PA X (.List Z p::es) (lB te t):=aq ha hr (by rfl)
theorem dP{c:Const}{k:Nat}{p:Pos}(ha:PE X (.Constant c k p) te)(hr:PA X es t):PA X (.Constant c k p::es) (lB te t):=aq ha hr (by rfl)
theorem bf{x:Str}{p:Pos}(ha:PE X (.Name x p) te)(hr:PA X es t):PA X (.Name x p::es) (lB te t):=aq ha hr (by rfl)
theorem iw{g:cS}{Z:List cS}{ks:List ON}{p:Pos}(ha:PE X (.Call g Z ks p) te)(hr:PA X es t):PA X (.Call g Z ks p::es) (lB te t):=aq ha hr (by rfl)
theorem qI{a b:cS}{p:Pos}(ha:PE X (.Subscript a b p) te)(hr:PA X es t):PA X (.Subscript a b p::es) (lB te t):=aq ha hr (by rfl)
theorem oA{a b:cS}{o:Jd}{p:Pos}(ha:PE X (.BinOp a o b p) te)(hr:PA X es t):PA X (.BinOp a o b p::es) (lB te t):=aq ha hr (by rfl)
end
theorem iz{t:L2.TT}{a b:TS}{D:mY}{σ:St}{H:Hp}(h:t σ H fun c H1=>if c=true then a D σ H1 else b D σ H1):tIfS t a b D σ H:=h
theorem eK.ref{bs qs:List Str}{H:Hp}{d:Dd}{v:V}(h:eK bs qs H d v):∃t,v=.ref t:=by
 cases d<;>simp only[eK]at h
 ·obtain⟨t,_,e,_⟩:=h;exact⟨t,e⟩
 ·obtain⟨t,_,e,_⟩:=h;exact⟨t,e⟩
 ·obtain⟨t,_,e,_⟩:=h;exact⟨t,e⟩
 ·obtain⟨t,_,e,_⟩:=h;exact⟨t,e⟩
 ·obtain⟨t,_,_,_,e,_⟩:=h;exact⟨t,e⟩
 ·obtain⟨t,_,_,_,e,_⟩:=h;exact⟨t,e⟩
 ·obtain⟨t,e,_⟩:=h;exact⟨t,e⟩
theorem Tree.scal{H:Hp}{v:V}(h:BJ v):∀n,Tree H n v
 |0=>h
 |_+1=>.inl h
theorem Tree.atup{H:Hp}{a:aa}{xs:List V}{n:Nat}(h:H a=some (.tup xs))(l:xs.length<1000)(k:∀x∈xs,Tree H n x):Tree H (n+1) (.ref a):=.inr {a,xs,rfl,.inr h,l,k}
theorem Tree.alst{H:Hp}{a:aa}{xs:List V}{n:Nat}(h:H a=some (.lst xs))(l:xs.length<1000)(k:∀x∈xs,Tree H n x):Tree H (n+1) (.ref a):=.inr {a,xs,rfl,.inl h,l,k}
theorem jy.tree{bs qs:List Str}{H:Hp}{v:V}{f:Fm}(h:jy bs qs H v f):∀n,f.depth<=n->Tree H n v:=by
 induction h with
 |num h1 _=>exact fun n Z=>match n,Z with
  |n+1,_=>Tree.atup h1 (by show 2<1000;decide) fun x hx=>by
   simp only[ar,aV,or_false]at hx
   rcases hx with rfl|rfl<;>exact Tree.scal (by exact trivial) _
  |0,Z=>absurd Z (by unfold Fm.depth;decide)
 |box h1 _=>exact fun n Z=>match n,Z with
  |n+1,_=>Tree.atup h1 (by show 2<1000;decide) fun x hx=>by
   simp only[ar,aV,or_false]at hx
   rcases hx with rfl|rfl<;>exact Tree.scal (by exact trivial) _
  |0,Z=>absurd Z (by unfold Fm.depth;decide)
 |long h1 _=>exact fun n Z=>match n,Z with
  |n+1,_=>Tree.atup h1 (by show 2<1000;decide) fun x hx=>by
   simp only[ar,aV,or_false]at hx
   rcases hx with rfl|rfl<;>exact Tree.scal (by exact trivial) _
  |0,Z=>absurd Z (by unfold Fm.depth;decide)
 |got h1=>exact fun n Z=>match n,Z with
  |n+1,_=>Tree.atup h1 (by show 2<1000;decide) fun x hx=>by
   simp only[ar,aV,or_false]at hx
   rcases hx with rfl|rfl<;>exact Tree.scal (by exact trivial) _
  |0,Z=>absurd Z (by unfold Fm.depth;decide)
 |now h1=>exact fun n Z=>match n,Z with
  |n+1,_=>Tree.atup h1 (by show 1<1000;decide) fun x hx=>by
   simp only[ar,aV,or_false]at hx
   rcases hx with rfl
   exact Tree.scal (by exact trivial) _
  |0,Z=>absurd Z (by unfold Fm.depth;decide)
 |two h1 _ _ _ W Y=>exact fun n Z=>match n,Z with
  |n+1,Z=>Tree.atup h1 (by show 3<1000;decide) fun x hx=>by
   unfold Fm.depth at Z;simp only[ar,aV,or_false]at hx
   rcases hx with rfl|rfl|rfl
   ·exact Tree.scal (by exact trivial) _
   ·exact W n (by omega)
   ·exact Y n (by omega)
  |0,Z=>absurd Z (by unfold Fm.depth;omega)
mutual
theorem eK.tree{bs qs:List Str}{H:Hp}:∀(d:Dd) (v:V) (n:Nat),eK bs qs H d v->2*d.deep+16<=n->Tree H n v
 |_,_,0,_,Y=>absurd Y (by omega)
 |.put x f,v,n+1,h,Y=>by
  obtain⟨t,u,rfl,h1,h2,Z⟩:=(by simpa only[eK] using h);refine Tree.atup h1 (by show 3<1000;decide) fun y hy=>?_;simp only[ar,aV,or_false]at hy
  rcases hy with rfl|rfl|rfl
  ·exact Tree.scal (by exact trivial) _
  ·exact Tree.scal (by exact trivial) _
  ·exact Z.1.tree n (by have:=Z.2;omega)
 |.push q f,v,n+1,h,Y=>by
  obtain⟨t,u,rfl,h1,h2,Z⟩:=(by simpa only[eK] using h);refine Tree.atup h1 (by show 3<1000;decide) fun y hy=>?_;simp only[ar,aV,or_false]at hy
  rcases hy with rfl|rfl|rfl
  ·exact Tree.scal (by exact trivial) _
  ·exact Tree.scal (by exact trivial) _
  ·exact Z.1.tree n (by have:=Z.2;omega)
 |.pull q x o,v,n+1,h,Y=>by
  obtain⟨t,u,rfl,h1,h2,Z,l,vs,rfl,W,M,J⟩:=(by simpa only[eK] using h);unfold Dd.deep at Y;refine Tree.atup h1 (by show 4<1000;decide) fun y hy=>?_;simp only[ar,aV,or_false]at hy
  rcases hy with rfl|rfl|rfl|rfl
  ·exact Tree.scal (by exact trivial) _
  ·exact Tree.scal (by exact trivial) _
  ·exact Tree.scal (by exact trivial) _
  ·obtain⟨m,rfl⟩:∃m,n=m+1:={n-1,by omega};exact Tree.alst W M (fJ.tree o vs m J (by omega))
 |.draw x f,v,n+1,h,Y=>by
  obtain⟨t,u,rfl,h1,h2,Z⟩:=(by simpa only[eK] using h);refine Tree.atup h1 (by show 3<1000;decide) fun y hy=>?_;simp only[ar,aV,or_false]at hy
  rcases hy with rfl|rfl|rfl
  ·exact Tree.scal (by exact trivial) _
  ·exact Tree.scal (by exact trivial) _
  ·exact Z.1.tree n (by have:=Z.2;omega)
 |.send to sg sp rk a b,v,n+1,h,Y=>by
  obtain⟨t,u,u1,u2,rfl,h1,h2,Z,W⟩:=(by simpa only[eK] using h);refine Tree.atup h1 (by show 7<1000;decide) fun y hy=>?_;simp only[ar,aV,or_false]at hy
  rcases hy with rfl|rfl|rfl|rfl|rfl|rfl|rfl
  ·exact Tree.scal (by exact trivial) _
  ·exact Tree.scal (by exact trivial) _
  ·exact Tree.scal (by exact trivial) _
  ·exact h2.1.tree n (by have:=h2.2;omega)
  ·exact Tree.scal (by exact trivial) _
  ·exact Z.1.tree n (by have:=Z.2;omega)
  ·exact W.1.tree n (by have:=W.2;omega)
 |.ife f x y,v,n+1,h,Y=>by
  obtain⟨t,u,u1,u2,rfl,h1,h2,⟨l,vs,rfl,g1,I,D⟩,g,U,rfl,k1,k2,k3⟩:=(by simpa only[eK] using h);unfold Dd.deep at Y;refine Tree.atup h1 (by show 4<1000;decide) fun z O=>?_;simp only[ar,aV,or_false]at O;obtain⟨m,rfl⟩:∃m,n=m+1:={n-1,by omega}
  rcases O with rfl|rfl|rfl|rfl
  ·exact Tree.scal (by exact trivial) _
  ·exact h2.1.tree _ (by have:=h2.2;omega)
  ·exact Tree.alst g1 I (fJ.tree x vs m D (by omega))
  ·exact Tree.alst k1 k2 (fJ.tree y U m k3 (by omega))
 |.fin,v,n+1,h,Y=>by
  obtain⟨t,rfl,h1⟩:=(by simpa only[eK] using h);refine Tree.atup h1 (by show 1<1000;decide) fun y hy=>?_;simp only[ar,aV,or_false]at hy;rw[hy];exact Tree.scal (by exact trivial) _
theorem fJ.tree{bs qs:List Str}{H:Hp}:∀(d:Ds) (vs:List V) (n:Nat),fJ bs qs H d vs->2*d.deep+16<=n->∀x∈vs,Tree H n x
 |.nil,vs,n,h,Z=>by
  have e:vs=[]:=by simpa only[fJ] using h
  subst e;intro x hx
  cases hx
 |.cons d r,vs,n,h,Z=>by
  obtain⟨v,Y,rfl,h1,h2⟩:=(by simpa only[fJ] using h);unfold Ds.deep at Z;intro x hx
  rcases ar.mp hx with rfl|hx
  ·exact eK.tree d _ n h1 (by omega)
  ·exact fJ.tree r Y n h2 (by omega) x hx
end
def AI(o:HO):Prop:=(∃xs,o=.tup xs)\/∃xs,o=.lst xs/\∀(i:Int) (r:List V),xs≠.int i::r
def dX(H H':Hp):Prop:=∀a o,H a=some o->AI o->H' a=some o
theorem dX.same{H H':Hp}(s:aY H H'):dX H H':=fun a o e _=>s _ _ e
theorem dX.trans{H H1 H2:Hp}(a:dX H H1)(b:dX H1 H2):dX H H2:=fun c o e n=>b _ _ (a _ _ e n) n
def Kp(own:List aa)(H G:Hp):Prop:=∀b o,H b=some o->b∉own->G b=some o
theorem Kp.refl(own:List aa)(H:Hp):Kp own H H:=fun _ _ e _=>e
theorem Kp.trans{own:List aa}{H G G':Hp}(a:Kp own H G)(b:Kp own G G'):Kp own H G':=fun c o e n=>b c o (a c o e n) n
theorem Kp.same{own:List aa}{H G:Hp}(s:aY H G):Kp own H G:=fun c o e _=>s _ _ e
theorem Kp.but{own:List aa}{H G:Hp}{p:aa}(s:But p H G)(m:p∈own):Kp own H G:=fun c o e n=>s _ _ e fun z=>n (by rw[z];exact m)
theorem Kp.upd{own:List aa}{H:Hp}{a:aa}{o:HO}(m:a∈own):Kp own H (upd H a o):=fun c u e n=>by
 rw[aL fun z=>n (by rw[z];exact m)];exact e
theorem Kp.keepI{own:List aa}{H G:Hp}(k:Kp own H G)(h:∀a∈own,∃(i:Int) (r:List V),H a=some (.lst (.int i::r))):dX H G:=fun a o e n=>k a o e fun m=>by
 obtain⟨i,r,q⟩:=h a m;rw[q]at e
 cases e
 rcases n with⟨xs,n⟩|⟨xs,n,y⟩
 ·cases n
 ·cases n;exact y i r rfl
theorem dX.but{H H':Hp}{p:aa}(pu:dE H p)(b:But p H H'):dX H H':=Kp.keepI (own:=[p]) (Kp.but b aC) fun a m=>by
 obtain⟨x,y,h⟩:=pu;rw[aA.mp m];exact{x,_,h}
theorem nA(xs:List V):AI (.tup xs):=.inl ⟨xs,rfl⟩
theorem Dv(Z:List Str):AI (.lst (Z.map V.str)):=.inr {_,rfl,fun i r z=>by
 cases Z with
 |nil=>cases z
 |cons x xs=>cases z}
theorem FmI.keepI{bs qs:List Str}{H H':Hp}(k:dX H H'){v:V}{f:Fm}(h:FmI bs qs H v f):FmI bs qs H' v f:={h.1.mono fun t xs e=>k _ _ e (nA xs),h.2}
theorem fJ.ni{bs qs:List Str}{H:Hp}{d:Ds}{vs:List V}(h:fJ bs qs H d vs):AI (.lst vs):=.inr {vs,rfl,fun i r z=>by
 subst z
 cases d with
 |nil=>
  simp only[fJ]at h
  cases h
 |cons d r=>
  obtain⟨v,Z,e,h1,_⟩:=(by simpa only[fJ] using h)
  cases e;obtain⟨t,e⟩:=h1.ref
  cases e}
def Tk(H H':Hp):Prop:=∀(t:aa) (xs:List V),H t=some (.tup xs)->H' t=some (.tup xs)
def Nk(H H' H2:Hp):Prop:=∀(l:aa) (xs:List V),H l=none->AI (.lst xs)->H' l=some (.lst xs)->H2 l=some (.lst xs)
def OwD(bs qs:List Str)(H H':Hp)(d:Dd)(v:V):Prop:=∀H2,Tk H' H2->Nk H H' H2->eK bs qs H2 d v
def OwS(bs qs:List Str)(H H':Hp)(d:Ds)(vs:List V):Prop:=∀H2,Tk H' H2->Nk H H' H2->fJ bs qs H2 d vs
theorem Tk.refl(H:Hp):Tk H H:=fun _ _ e=>e
theorem Nk.refl(H H':Hp):Nk H H' H':=fun _ _ _ _ e=>e
theorem OwS.now{bs qs:List Str}{H H':Hp}{d:Ds}{v:List V}(h:OwS bs qs H H' d v):fJ bs qs H' d v:=h H' (Tk.refl _) (Nk.refl _ _)
theorem dX.tk{H H':Hp}(k:dX H H'):Tk H H':=fun t xs e=>k _ _ e (nA xs)
theorem dX.nk{H H1 H' H2:Hp}(k:dX H' H1)(n:Nk H H1 H2):Nk H H' H2:=fun l xs h i e=>n l xs h i (k _ _ e i)
theorem OwS.keepI{bs qs:List Str}{H H' H1:Hp}{d:Ds}{v:List V}(h:OwS bs qs H H' d v)(k:dX H' H1):OwS bs qs H H1 d v:=fun H2 t n=>h H2 (fun a xs e=>t a xs (k.tk a xs e)) (k.nk n)
def Dm(H G:Hp):Prop:=∀a,G a=none->H a=none
theorem Dm.same{H G:Hp}(s:aY H G):Dm H G:=fun a n=>none_of s n
theorem Dm.trans{H G G':Hp}(a:Dm H G)(b:Dm G G'):Dm H G':=fun x n=>a x (b x n)
theorem OwD.base{bs qs:List Str}{H H0 H':Hp}{d:Dd}{v:V}(h:OwD bs qs H H' d v)(s:Dm H0 H):OwD bs qs H0 H' d v:=fun H2 t n=>h H2 t fun l xs hl i e=>n l xs (s l hl) i e
theorem OwS.base{bs qs:List Str}{H H0 H':Hp}{d:Ds}{v:List V}(h:OwS bs qs H H' d v)(s:Dm H0 H):OwS bs qs H0 H' d v:=fun H2 t n=>h H2 t fun l xs hl i e=>n l xs (s l hl) i e
theorem OwD.old{bs qs:List Str}{H H':Hp}{d:Dd}{v:V}{a:aa}{o:HO}(h:OwD bs qs H H' d v)(ol:H a≠none)(nt:∀xs,H' a≠some (.tup xs)):OwD bs qs H (upd H' a o) d v:=fun H2 t n=>h H2 (fun b xs e=>t b xs (by rw[aL (fun z=>nt xs (by rw[<- z];exact e))];exact e)) fun l xs hl i e=>n l xs hl i (by rw[aL (fun z=>ol (by rw[<- z];exact hl))];exact e)
theorem OwS.old{bs qs:List Str}{H H':Hp}{d:Ds}{v:List V}{a:aa}{o:HO}(h:OwS bs qs H H' d v)(ol:H a≠none)(nt:∀xs,H' a≠some (.tup xs)):OwS bs qs H (upd H' a o) d v:=fun H2 t n=>h H2 (fun b xs e=>t b xs (by rw[aL (fun z=>nt xs (by rw[<- z];exact e))];exact e)) fun l xs hl i e=>n l xs hl i (by rw[aL (fun z=>ol (by rw[<- z];exact hl))];exact e)
theorem FmI.tk{bs qs:List Str}{H H2:Hp}{v:V}{F:Fm}(h:FmI bs qs H v F)(t:Tk H H2):FmI bs qs H2 v F:={h.1.mono t,h.2}
section
variable{bs qs:List Str}{H H':Hp}{t:aa}{u u1 u2:V}{F F1 F2:Fm}{x q:Str}
theorem Od(h:H' t=some (.tup [.str "put",.str x,u]))(m:x∈bs)(f:FmI bs qs H' u F):OwD bs qs H H' (.put x F) (.ref t):=fun H2 k _=>by simp only[eK];exact{t,u,rfl,k _ _ h,m,f.tk k}
theorem Kl(h:H' t=some (.tup [.str "push",.str q,u]))(m:q∈qs)(f:FmI bs qs H' u F):OwD bs qs H H' (.push q F) (.ref t):=fun H2 k _=>by simp only[eK];exact{t,u,rfl,k _ _ h,m,f.tk k}
theorem Km(h:H' t=some (.tup [.str "draw",.str x,u]))(m:x∈bs)(f:FmI bs qs H' u F):OwD bs qs H H' (.draw x F) (.ref t):=fun H2 k _=>by simp only[eK];exact{t,u,rfl,k _ _ h,m,f.tk k}
theorem Oe(h:H' t=some (.tup [.str "end"])):OwD bs qs H H' .fin (.ref t):=fun H2 k _=>by simp only[eK];exact{t,rfl,k _ _ h}
theorem Kn{to rk:Int}{sg:Str}(h:H' t=some (.tup [.str "send",.int to,.str sg,u,.int rk,u1,u2]))(f:FmI bs qs H' u F)(f1:FmI bs qs H' u1 F1)(Z:FmI bs qs H' u2 F2):OwD bs qs H H' (.send to sg F rk F1 F2) (.ref t):=fun H2 k _=>by simp only[eK];exact{t,u,u1,u2,rfl,k _ _ h,f.tk k,f1.tk k,Z.tk k}
theorem Ko{l:aa}{xs:List V}{d:Ds}(h:H' t=some (.tup [.str "pull",.str q,.str x,.ref l]))(Y:q∈qs)(Z:x∈bs)(hl:H l=none)(e:H' l=some (.lst xs))(z:xs.length<1000)(D:OwS bs qs H H' d xs):OwD bs qs H H' (.pull q x d) (.ref t):=fun H2 k n=>by
 simp only[eK];exact{t,.ref l,rfl,k _ _ h,Y,Z,l,xs,rfl,n l xs hl D.now.ni e,z,D H2 k n}
theorem Of{l Z:aa}{xs ys:List V}{d d':Ds}(h:H' t=some (.tup [.str "if",u,.ref l,.ref Z]))(f:FmI bs qs H' u F)(hl:H l=none)(e:H' l=some (.lst xs))(z:xs.length<1000)(D:OwS bs qs H H' d xs)(Y:H Z=none)(e':H' Z=some (.lst ys))(U:ys.length<1000)(W:OwS bs qs H H' d' ys):OwD bs qs H H' (.ife F d d') (.ref t):=fun H2 k n=>by
 simp only[eK];exact{t,u,.ref l,.ref Z,rfl,k _ _ h,f.tk k,{l,xs,rfl,n l xs hl D.now.ni e,z,D H2 k n},Z,ys,rfl,n Z ys Y W.now.ni e',U,W H2 k n}
theorem Kq:OwS bs qs H H' .nil []:=fun _ _ _=>by simp only[fJ]
end
def abc:Str:="abcdefghijklmnopqrstuvwxyz"
theorem Dw:abc.cps.toList.length=26:=by decide +kernel
theorem ym:abc.length<=aB:=by decide +kernel
theorem Og{z:Int}(h0:0<=z)(h1:z<26):∃c,atI abc.cps.toList z=some c:=by
 obtain⟨j,rfl⟩:∃j:Nat,z=(j:Int):={z.toNat,by omega};have l:j<abc.cps.toList.length:=by rw[Dw];omega
 exact{abc.cps.toList[j],jD (aE l)}
theorem AJ(x y:Str):(x++y).length=x.length+y.length:=by
 show (x++y).cps.size=x.cps.size+y.cps.size;show (x.cps++y.cps).size=_;rw[Array.size_append]
theorem um{n:Nat}{U:TE}{g:TG}{tc:L2.TT}{te:TE}{σ:St}{H:Hp}{Q:VK}(P:Nat->Hp->Prop)(hi:∀R:VK,(∀(m:Nat) (H1:Hp),P m H1->R (.int m) H1)->U σ H R)(hb:∀m H1,P m H1->m<1000)(Z:Nat->Hp->Nat->List V->Hp->Prop)(h0:∀m H1,P m H1->Z m H1 0 [] H1)(hl:∀m H1,P m H1->∀i ys H,i<=m->Z m H1 i ys H->ys.length<aB)
  (hs:∀m H1,P m H1->∀i ys H,i<m->Z m H1 i ys H->g (.int (0+i)) (cF n none++σ) H fun Y H2=>Y.drop n=σ/\tc Y H2 fun b W=>if b=true then te Y W fun y O=>Z m H1 (i+1) (ys++[y]) O else Z m H1 (i+1) ys W)
  (hd:∀m H1,P m H1->∀ys H,Z m H1 m ys H->∀p,H p=none->Q (.ref p) (upd H p (.lst ys))):uF n (Fy (lB U zY)) g tc te σ H Q:=
 hi _ fun m H1 p=>{(m:Int),rfl,by have:=hb m H1 p;omega,by have:=hb m H1 p;omega,by
  rw[uX];exact GX (Z m H1) (h0 m H1 p) (hl m H1 p) (hs m H1 p) (hd m H1 p)}
theorem q9{p:aa}{G:Hp}{a:aa}(h:dE G p)(n:G a=none):a≠p:=by
 obtain⟨x,y,e⟩:=h;exact (aw e n).symm
theorem uo{p:aa}{G:Hp}(h:dE G p){a:aa}{o:HO}(n:a≠p):dE (upd G a o) p:=by
 obtain⟨x,y,e⟩:=h;exact{x,y,by rw[aL n.symm];exact e}
theorem w8{K:ae}{n:Nat}{U:TE}{g:TG}{tc:L2.TT}{te:TE}{σ:St}{H:Hp}{Q:VK}{a:aa}{xs:List V}(hi:∀R:VK,R (.ref a) H->U σ H R)(hx:SqL K H a xs)(Z:Nat->List V->Hp->Prop)(h0:Z 0 [] H)(hl:∀i ys H,i<=xs.length->Z i ys H->SqL K H a xs/\ys.length<aB)
  (hs:∀i x ys H,xs[i]?=some x->Z i ys H->g x (cF n none++σ) H fun Y H2=>Y.drop n=σ/\tc Y H2 fun b W=>if b=true then te Y W fun y O=>Z (i+1) (ys++[y]) O else Z (i+1) ys W)
  (hd:∀ys H,Z xs.length ys H->∀p,H p=none->Q (.ref p) (upd H p (.lst ys))):uF n (Fw K U) g tc te σ H Q:=
 hi _ {a,rfl,⟨xs,hx⟩,tX Z h0 hl hs hd}
section
variable{P:aK}{w:bD}{K:ae}{mg:Str->Option af}{base:cB}{f fD:aa}{fd fdD:bU}
seal PS PSs PE PA PT PW PI PG PGs PC
abbrev pD:List Str:=["_law_purse_here","_law_out_of"]
abbrev nW:List Str:=["_law_purse_here"]
abbrev pW:List Str:=["_law_purse_here"]
theorem scW:bO nW pW (aN fY):={}
def vJ:Sp:=fun vs H Q _=>∃p:aa,vs=[.ref p]/\dE H p/\∀(r:Int) (H':Hp),-(10^15)<=r->r<=10^15->dE H' p->But p H H'->Q (.int r) H'
theorem xa(D:Df K mg "_law_worth" fY pW f fd)(Z:Df K mg "_law_draw" eJ pD fD fdD)(B:Bl mg):bC P w K mg base CX0 2 f fd pW vJ:=by
 have M:bC P w K mg base CX0 1 fD fdD pD j5:=j9 Z;refine D.F.ok scW (fun vs H Q E h=>?_) (fun z A outer s H vs Q E hr h=>?_)
 ·obtain⟨p,rfl,_⟩:=h;rfl
 obtain⟨p,rfl,pu,q⟩:=h;have r1:cX 1 _:=hr;refine{_,aj (cW (bN fh (aM M r1 (by rfl) Z.m Z.F.kp Z.b .nil bh (bf (pv 0) (dP au ai))) au (bY _)) (aD (bQ (cL jn (aM M r1 (by rfl) Z.m Z.F.kp Z.b .nil bh (bf (pv 0) (oA (cL gK (cL rG au (cL rJ au au)) au) ai))) (cL rJ au au)))) cj)
  (aD (bQ (cL jn (aM M r1 (by rfl) Z.m Z.F.kp Z.b .nil bh (bf (pv 0) (dP au ai))) au))),?_}
 have U:Ef 10 15:={by decide,by decide,by decide};have Y:(10:Int)^(15:Int).toNat=1000000000000000:=by decide
 have I:(10:Int)^15=1000000000000000:=by decide
 refine cy (iz {_,rfl,p,6,rfl,pu,by decide,by decide,fun r G r0 r6 V J=>?_});refine{rfl,_,rfl,gH (fun _=>?_) (fun _=>?_)}
 ·refine gk {_,rfl,_,_,rfl,rfl,U,_,_,rfl,rfl,.inl {by decide,by decide},_,_,rfl,rfl,p,_,rfl,V,by decide,by decide,fun x G2 g x1 W O=>{_,_,rfl,rfl,U,_,_,rfl,rfl,q _ _ ?_ ?_ W (J.trans O)}}
  ·rw[Y];omega
  ·have x1:x<2*(10:Int)^(15:Int).toNat+1:=x1;rw[Y]at x1;rw[Y];omega
 ·dsimp only[o8];refine gk {_,rfl,p,13,rfl,V,by decide,by decide,fun x G2 g x1 W O=>{_,_,rfl,rfl,q _ _ (by omega) (by omega) W (J.trans O)}}
end
structure Lf(H:Hp)(p lf:aa):Prop where
 pu:dE H p
 hl:∃k:Int,H lf=some (.lst [.int k])
theorem Lf.int{H:Hp}{p Z:aa}(h:Lf H p Z):∀a∈[p,Z],∃(i:Int) (r:List V),H a=some (.lst (.int i::r)):=fun a m=>by
 obtain⟨x,y,e⟩:=h.pu;obtain⟨z,e'⟩:=h.hl
 rcases ar.mp m with rfl|m
 ·exact{x,_,e}
 ·rw[aA.mp m];exact{z,_,e'}
theorem Lf.ne{H:Hp}{p Z:aa}(h:Lf H p Z):Z≠p:=by
 obtain⟨x,y,e⟩:=h.pu;obtain⟨z,e'⟩:=h.hl;exact o6 e' e (by intro q;cases q)
theorem Lf.but{H H':Hp}{p Z:aa}(h:Lf H p Z)(b:But p H H')(pu:dE H' p):Lf H' p Z:=by
 obtain⟨z,e'⟩:=h.hl;exact{pu,z,b _ _ e' h.ne}
theorem Lf.same{H H':Hp}{p Z:aa}(h:Lf H p Z)(s:aY H H'):Lf H' p Z:=by
 obtain⟨z,e'⟩:=h.hl;exact{h.pu.same s,z,s _ _ e'}
def qJ:Ds->Dd->Ds
 |.nil,d=>.cons d .nil
 |.cons a r,d=>.cons a (qJ r d)
theorem Dx{bs qs:List Str}{H:Hp}{d:Dd}{v:V}(hd:eK bs qs H d v):∀(ds:Ds) (xs:List V),fJ bs qs H ds xs->fJ bs qs H (qJ ds d) (xs++[v])
 |.nil,xs,h=>by
  have e:xs=[]:=by simpa only[fJ] using h
  subst e;unfold qJ;simp only[fJ];exact{v,[],rfl,hd,rfl}
 |.cons a r,xs,h=>by
  obtain⟨u,Z,rfl,h1,h2⟩:=(by simpa only[fJ] using h);unfold qJ;simp only[fJ];exact{u,Z++[v],rfl,h1,Dx hd r Z h2}
theorem Dy{m:Int}{d:Dd}(hd:d.toOk m):∀ds:Ds,ds.toOk m->(qJ ds d).toOk m
 |.nil,_=>⟨hd,trivial⟩
 |.cons a r,h=>{h.1,Dy hd r h.2}
theorem yn(d:Dd):∀ds:Ds,(qJ ds d).deep=max ds.deep d.deep
 |.nil=>by
  show max d.deep 0=max 0 d.deep;exact Nat.max_comm _ _
 |.cons a r=>by
  show max a.deep (qJ r d).deep=max (max a.deep r.deep) d.deep;rw[yn d r];exact (Nat.max_assoc _ _ _).symm
theorem yo(d:Dd):∀ds:Ds,(qJ ds d).size=ds.size+d.size
 |.nil=>by
  show d.size+0=0+d.size;omega
 |.cons a r=>by
  show a.size+(qJ r d).size=a.size+r.size+d.size;rw[yo d r];omega
theorem Ij{bs qs:List Str}{H H':Hp}{ds:Ds}{xs:List V}{d:Dd}{v:V}(a:OwS bs qs H H' ds xs)(b:OwD bs qs H H' d v):OwS bs qs H H' (qJ ds d) (xs++[v]):=fun H2 k n=>Dx (b H2 k n) ds xs (a H2 k n)
theorem Kr:∀n,1<=ddz n
 |0=>ay _
 |n+1=>by
  show 1<=1+6*ddz n;omega
theorem Kp.dm{own:List aa}{H G:Hp}(k:Kp own H G)(h:∀a∈own,∃o,G a=some o):Dm H G:=fun a n=>by
 cases e:H a with
 |none=>rfl
 |some o=>
  by_cases m:a∈own
  ·obtain⟨u,q⟩:=h a m;rw[q]at n
   cases n
  ·rw[k a o e m]at n
   cases n
theorem Lf.there{H:Hp}{p Z:aa}(h:Lf H p Z):∀a∈[p,Z],∃o,H a=some o:=fun a m=>by
 obtain⟨i,r,e⟩:=h.int a m;exact{_,e}
def HsO(bs qs:List Str)(H H':Hp)(v:V)(q:Str×Ds):Prop:=∃t l xs,v=.ref t/\H' t=some (.tup [.str q.1,.ref l])/\H l=none/\H' l=some (.lst xs)/\xs.length<1000/\OwS bs qs H H' q.2 xs
theorem HsO.keepI{bs qs:List Str}{H H' H1:Hp}{v:V}{q:Str×Ds}(k:dX H' H1)(h:HsO bs qs H H' v q):HsO bs qs H H1 v q:=by
 obtain⟨t,l,xs,e,h1,h2,W,Y,Z⟩:=h;exact{t,l,xs,e,k _ _ h1 (nA _),h2,k _ _ W Z.now.ni,Y,Z.keepI k}
theorem HsO.old{bs qs:List Str}{H H':Hp}{v:V}{q:Str×Ds}{a:aa}{o:HO}(h:HsO bs qs H H' v q)(ol:H a≠none)(nt:∀xs,H' a≠some (.tup xs)):HsO bs qs H (upd H' a o) v q:=by
 obtain⟨t,l,xs,e,h1,h2,W,Z,Y⟩:=h;exact{t,l,xs,e,aT h1 (fun z=>nt _ (by rw[<- z];exact h1)),h2,aT W (fun z=>ol (by rw[<- z];exact h2)),Z,Y.old ol nt}
theorem HsO.base{bs qs:List Str}{H H0 H':Hp}{v:V}{q:Str×Ds}(h:HsO bs qs H H' v q)(s:Dm H0 H):HsO bs qs H0 H' v q:=by
 obtain⟨t,l,xs,e,h1,h2,W,Z,Y⟩:=h;exact{t,l,xs,e,h1,s l h2,W,Z,Y.base s}
structure Mch(m:Int)(H H':Hp)(t:aa)(nm:Str)(bs qs:List Str)(ds:List Int)(hs:List (Str×Ds))(ps:List (Str×Int)):Prop where
 ex:∃(bl ql dl hl:aa) (vb hv:List V),H' t=some (.tup [.str nm,.ref bl,.ref ql,.ref dl,.ref hl])/\H' bl=some (.lst vb)/\gU H' ps vb/\H' ql=some (.lst (qs.map V.str))/\H' dl=some (.lst (ds.map V.int))/\H' hl=some (.lst hv)/\aJ (HsO bs qs H H') hv hs/\H bl=none/\H ql=none/\H dl=none/\H hl=none
 kb:ps.map (·.1)=bs
 nb:bs.Nodup
 nq:qs.Nodup
 lb:bs.length<=9
 lq:qs.length<=9
 ld:ds.length<=100
 lh:hs.length<=9
 wb:∀q∈ps,Wo q.2
 hk:∀q∈hs,q.2.toOk m/\q.2.deep<=4/\q.2.size<=3*ddz 4
def MIn(m:Int)(H H':Hp)(v:V)(M:MD):Prop:=∃t,v=.ref t/\Mch m H H' t M.nm M.bs M.qs M.ds M.hs M.ps
theorem Mch.but{m:Int}{H H' H1:Hp}{t p:aa}{nm:Str}{bs qs:List Str}{ds:List Int}{hs:List (Str×Ds)}{ps:List (Str×Int)}(Z:dE H p)(pu:dE H' p)(b:But p H' H1)(h:Mch m H H' t nm bs qs ds hs ps):Mch m H H1 t nm bs qs ds hs ps:=by
 have k:=dX.but pu b;have np:∀{a:aa},H a=none->a≠p:=fun {a} e z=>by
  obtain⟨x,y,q⟩:=Z;rw[z,q]at e
  cases e
 obtain⟨⟨bl,ql,dl,hl,U,hv,h1,h2,I,D,O,J,M,f1,W,Y,V⟩,kb,nb,nq,lb,lq,ld,lh,wb,hk⟩:=h;exact{{bl,ql,dl,hl,U,hv,k _ _ h1 (nA _),b _ _ h2 (np f1),gU.tups (fun a xs e=>k _ _ e (nA xs)) I,b _ _ D (np W),b _ _ O (np Y),b _ _ J (np V),Paired.mono (fun v q z=>HsO.keepI k z) M,f1,W,Y,V},kb,nb,nq,lb,lq,ld,lh,wb,hk}
theorem Mch.same{m:Int}{H H' H1:Hp}{t:aa}{nm:Str}{bs qs:List Str}{ds:List Int}{hs:List (Str×Ds)}{ps:List (Str×Int)}(b:aY H' H1)(h:Mch m H H' t nm bs qs ds hs ps):Mch m H H1 t nm bs qs ds hs ps:=by
 obtain⟨⟨bl,ql,dl,hl,Z,hv,h1,h2,O,J,W,U,V,f1,M,Y,I⟩,kb,nb,nq,lb,lq,ld,lh,wb,hk⟩:=h;exact{{bl,ql,dl,hl,Z,hv,b _ _ h1,b _ _ h2,gU.same b O,b _ _ J,b _ _ W,b _ _ U,Paired.mono (fun v q z=>HsO.keepI (dX.same b) z) V,f1,M,Y,I},kb,nb,nq,lb,lq,ld,lh,wb,hk}
theorem Mch.base{m:Int}{H0 H H':Hp}{t:aa}{nm:Str}{bs qs:List Str}{ds:List Int}{hs:List (Str×Ds)}{ps:List (Str×Int)}(s:Dm H0 H)(h:Mch m H H' t nm bs qs ds hs ps):Mch m H0 H' t nm bs qs ds hs ps:=by
 obtain⟨⟨bl,ql,dl,hl,Z,hv,h1,h2,O,J,W,U,V,f1,M,Y,I⟩,kb,nb,nq,lb,lq,ld,lh,wb,hk⟩:=h;exact{{bl,ql,dl,hl,Z,hv,h1,h2,O,J,W,U,Paired.mono (fun v q z=>HsO.base z s) V,s _ f1,s _ M,s _ Y,s _ I},kb,nb,nq,lb,lq,ld,lh,wb,hk}
theorem But.dm{p:aa}{H G:Hp}(b:But p H G)(pu:dE G p):Dm H G:=fun a n=>by
 cases e:H a with
 |none=>rfl
 |some o=>
  by_cases c:a=p
  ·obtain⟨x,y,q⟩:=pu;rw[c,q]at n
   cases n
  ·rw[b a o e c]at n
   cases n
theorem tw{H:Hp}:∀{ps:List (Str×Int)} {vs:List V},gU H ps vs->aJ (fun v (x:Str)=>∃a n,v=.ref a/\H a=some (.tup [.str x,n])) vs (ps.map (·.1))
 | [],_,h=>by
  cases h;exact .nil
 |p::ps,_,h=>by
  cases h with
  |cons a b=>
   obtain⟨t,e,h⟩:=a;exact .cons {t,_,e,h} (tw (ps:=ps) b)
theorem oZ{Y:Type}{R:V->Y->Prop}:∀{xs:List V} {Z:List Y},aJ R xs Z->∀x∈xs,∃a∈Z,R x a
 |_,_,.nil,_,h=>by cases h
 |_,_,.cons a b,x,h=>by
  rcases ar.mp h with z|z
  ·exact{_,aC,by rw[z];exact a}
  ·obtain⟨c,hc,r⟩:=oZ b x z;exact{c,ag _ hc,r}
theorem MIn.moI{m:Int}{H H':Hp}{v:V}{M:MD}(h:MIn m H H' v M):MoI m H' v M:=by
 obtain⟨t,rfl,⟨bl,ql,dl,hl,Z,hv,h1,h2,Y,W,U,J,O,f1,f2,f3,f4⟩,kb,nb,nq,lb,lq,ld,lh,wb,hk⟩:=h;refine{{t,bl,ql,dl,hl,_,Z,hv,rfl,h1,h2,by rw[<- kb];exact tw Y,W,U,J,Paired.mono (fun v q z=>?_) O},{t,bl,ql,_,_,_,Z,rfl,h1,h2,Y,W},kb,nb,nq,lb,lq,ld,lh,wb,hk};obtain⟨u,l,xs,e,g1,g2,g,D,I⟩:=z;exact{u,.ref l,e,g1,l,xs,rfl,g,D,I.now}
theorem MIn.tree{m:Int}{H H':Hp}{v:V}{M:MD}(h:MIn m H H' v M):Tree H' 28 v:=by
 obtain⟨t,rfl,⟨bl,ql,dl,hl,vb,hv,h1,h2,W,g,U,J,Y,f1,f2,f3,f4⟩,kb,nb,nq,lb,lq,ld,lh,wb,hk⟩:=h;have O:M.ps.length<=9:=by
  have:=congrArg iW kb;rw[av]at this;omega
 refine Tree.atup h1 (by show 5<1000;decide) fun y hy=>?_;simp only[ar,aV,or_false]at hy
 rcases hy with rfl|rfl|rfl|rfl|rfl
 ·exact Tree.scal (by exact trivial) _
 ·exact Tree.alst h2 (by rw[<- W.length];omega) fun z Z=>W.tree (n:=25) z Z
 ·refine Tree.alst g (by rw[av];omega) fun z Z=>?_;obtain⟨x,_,rfl⟩:=cH.mp Z;exact Tree.scal (by exact trivial) _
 ·refine Tree.alst U (by rw[av];omega) fun z Z=>?_;obtain⟨x,_,rfl⟩:=cH.mp Z;exact Tree.scal (by exact trivial) _
 ·refine Tree.alst J (by rw[aO Y];omega) fun z Z=>?_;obtain⟨q,hq,u,l,xs,rfl,g1,g2,g3,D,I⟩:=oZ Y z Z;refine Tree.atup g1 (by show 2<1000;decide) fun y hy=>?_;simp only[ar,aV,or_false]at hy
  rcases hy with rfl|rfl
  ·exact Tree.scal (by exact trivial) _
  ·exact Tree.alst g3 D fun z Z=>fJ.tree q.2 xs 24 I.now (by have:=(hk q hq).2.1;omega) z Z
theorem BV.alike{H H':Hp}{v O:V}{M:MD}(h:BV H v M)(D:Alike H H' 28 v O):BV H' O M:=by
 obtain⟨t,bl,ql,n0,x3,x4,vb,rfl,h1,h2,I,g⟩:=h;obtain⟨t',bS,rfl,U,Z⟩:=uc h1 D;obtain⟨z0,Y,rfl,a0,Z⟩:=dM Z;obtain⟨z1,Y,rfl,a1,Z⟩:=dM Z;obtain⟨z2,Y,rfl,a2,Z⟩:=dM Z;obtain⟨z3,Y,rfl,a3,Z⟩:=dM Z;obtain⟨z4,Y,rfl,a4,Z⟩:=dM Z;obtain rfl:=om Z;obtain⟨b',W,rfl,c1,d1⟩:=n6 h2 a1;obtain⟨J,vq,rfl,c2,d2⟩:=n6 g a2;rw[iT d2 (by intro x hx;obtain⟨z,_,rfl⟩:=cH.mp hx;exact trivial)]at c2;exact{t',b',J,z0,z3,z4,W,rfl,U,c1,I.alike d1,c2}
theorem Dz{m:Int}{H0 H:Hp}{Z:aa}{xs:List V}{Ms:List MD}(h:H Z=some (.lst xs))(p:aJ (MIn m H0 H) xs Ms)(l:Ms.length<1000):Tree H 29 (.ref Z):=
 Tree.alst h (by rw[aO p];exact l) fun x hx=>by
  obtain⟨M,_,z⟩:=oZ p x hx;exact z.tree
theorem Ks{m:Int}{H0 H H2:Hp}{W:aa}{xs:List V}{Ms:List MD}{Y:V}(h:H W=some (.lst xs))(p:aJ (MIn m H0 H) xs Ms)(U:Alike H H2 29 (.ref W) Y):∃Z,Y=.ref Z/\zh m H2 Z Ms:=by
 obtain⟨Z,ys,rfl,h1,O⟩:=n6 h U;refine{Z,rfl,ys,h1,qR (R:=MIn m H0 H) (S:=Alike H H2 28) (T:=Tree H 28) (fun v M Y a b c=>?_) p O fun x hx=>?_}
 ·have z:=a.moI;exact{z.ma.alike c b,z.fs.alike b,z.kb,z.nb,z.nq,z.lb,z.lq,z.ld,z.lh,z.wb,z.hk}
 ·obtain⟨M,_,z⟩:=oZ p x hx;exact z.tree
theorem Oh:abc.cps.toList.Nodup:=by decide +kernel
def GN(b:Nat)(Z:List Str):Prop:=∀i s,Z[i]?=some s->∃c,abc.cps.toList[b+i]?=some c/\s.cps.toList[0]?=some c
theorem Kt{i j:Nat} {c} (hi:abc.cps.toList[i]?=some c) (Z:abc.cps.toList[j]?=some c):i=j:=by
 have li:=(aF.mp hi).1;exact (List.getElem?_inj li Oh).mp (hi.trans Z.symm)
theorem Ku{n:Nat}(h1:n<26):∃c,abc.cps.toList[n]?=some c/\atI abc.cps.toList (n:Int)=some c:=by
 have l:n<abc.cps.toList.length:=by rw[Dw];omega
 exact{abc.cps.toList[n],aE l,jD (aE l)}
theorem GN.nodup{b:Nat}{Y:List Str}(h:GN b Y):Y.Nodup:=by
 refine dC.mpr fun i j li W V e=>?_;obtain⟨c,a1,a2⟩:=h i _ (aE li);obtain⟨d,U,Z⟩:=h j _ (aE W);rw[<- e,a2]at Z
 cases Z;have z:=Kt a1 U;omega
theorem GN.snoc{b:Nat}{Z:List Str}{s:Str} {c} (h:GN b Z) (h2:abc.cps.toList[b+Z.length]?=some c) (V:s.cps.toList[0]?=some c):GN b (Z++[s]):=by
 intro i x e
 by_cases hi:i<Z.length
 ·rw[eM hi]at e;exact h i x e
 ·rw[cP (by omega)]at e;obtain⟨W,_⟩:=aF.mp e;have W:i-Z.length<1:=W;have Y:i=Z.length:=by omega
  subst Y;rw[jZ]at e
  cases e;exact⟨c,h2,V⟩
theorem zp{x y:Str} {c} (h:x.cps.toList[0]?=some c):(x++y).cps.toList[0]?=some c:=by
 show (x.cps++y.cps).toList[0]?=some c;rw[Array.toList_append,eM (aF.mp h).1];exact h
section
variable{P:aK}{w:bD}{K:ae}{mg:Str->Option af}{base:cB}{f fD fNm:aa}{fd fdD fdNm:bU}
seal PS PSs PE PA PT PW PI PG PGs PC
abbrev nNm:List Str:=["_law_purse_here","_law_long","_law_word","_law_k"]
abbrev pNm:List Str:=["_law_purse_here","_law_long"]
theorem Kv:bO nNm pNm (aN oV):={}
inductive LQ(vs:List V)(H:Hp)(Q:VK)(_e:XK):Prop where
 |mk(p:aa)(n:Int)(_:vs=[.ref p,.int n])(_:dE H p)(_:0<n)(_:n<=9)(_:∀(s:Str) (H':Hp),s.length<=9->dE H' p->But p H H'->Q (.str s) H'):LQ vs H Q _e
def spNm:Sp:=fun vs H Q Z=>LQ vs H Q Z
theorem ok_nm(D:Df K mg "_law_name" oV pNm f fd)(Y:Df K mg "_law_draw" eJ pD fD fdD)(B:Bl mg):bC P w K mg base CX0 2 f fd pNm spNm:=by
 have O:bC P w K mg base CX0 1 fD fdD pD j5:=j9 Y;refine D.F.ok Kv (fun vs H Q E h=>?_) (fun M A outer s H vs Q E hr h=>?_)
 ·obtain⟨p,n,rfl,_⟩:=h;rfl
 obtain⟨p,n,rfl,pu,n0,g,q⟩:=h;have r1:cX 1 _:=hr;refine{_,aj (bE (i:=2) Kv.nd rfl (Or.inl rfl) cg)
  (aj (jA cY rfl (jV (by rfl) B.range (oA (cL gK au (aM O r1 (by rfl) Y.m Y.F.kp Y.b .nil bh (bf (pv 0) (bf (pv 1) ai)))) ai)) (dS (i:=3) Kv.nd rfl (Or.inl rfl)) (aD (bE (i:=2) Kv.nd rfl (Or.inl rfl) (cL vU (pv 2) (bR FP cg (aM O r1 (by rfl) Y.m Y.F.kp Y.b .nil bh (bf (pv 0) (dP au ai))) (fun _ _=>rfl))))))
  (aD (bQ (pv 2)))),?_}
 have big:=eD;refine cy (cZ (bK ?_));dsimp only;refine cy {_,rfl,_,rfl,p,n,rfl,pu,by omega,by omega,fun r G r0 J Z W=>{_,_,rfl,rfl,1+r,rfl,by omega,by omega,?_}};refine tO (n:=(1+r).toNat) (fun i σ G=>∃(w:Str) (u:Option V),σ=[some (.ref p),some (.int n),some (.str w),u]/\w.length=i/\dE G p/\But p H G) {_,_,rfl,rfl,Z,W} ?_ ?_
 ·rintro i σ G hi ⟨w,u,rfl,hw,Z,W⟩;refine cZ {_,rfl,_,rfl,p,26,rfl,Z,by decide,by decide,fun x G2 z x1 U I=>?_};obtain⟨c,hc⟩:=Og z x1;refine{abc,_,c,rfl,rfl,ym,hc,w,{#[c]},rfl,rfl,?_,?_}
  ·show w.length+1<=aB;omega
  ·exact{_,_,rfl,by rw[AJ,hw];rfl,U,W.trans I}
 ·rintro σ G ⟨w,u,rfl,hw,Z,W⟩;dsimp only;exact gk {_,rfl,q w G (by omega) Z W}
abbrev nN:List Str:=["_law_purse_here","_law_many","_law_first"]
abbrev pN:List Str:=["_law_purse_here","_law_many","_law_first"]
theorem scN:bO nN pN (aN kA):={}
theorem ndN:((["_law_k"]:List Str)++nN).Nodup:=by decide +kernel
inductive AK(vs:List V)(H:Hp)(Q:VK)(_e:XK):Prop where
 |mk(p:aa)(n fs:Nat)(_:vs=[.ref p,.int n,.int fs])(_:dE H p)(_:n<=9)(_:fs+n<=26)(_:∀(l:aa) (ss:List Str) (H':Hp),H l=none->H' l=some (.lst (ss.map V.str))->ss.length=n->ss.Nodup->dE H' p->But p H H'->Q (.ref l) H'):AK vs H Q _e
def DG:Sp:=fun vs H Q Z=>AK vs H Q Z
theorem Ik(D:Df K mg "_law_names" kA pN f fd)(W:Df K mg "_law_name" oV pNm fNm fdNm)(g:Df K mg "_law_draw" eJ pD fD fdD)(B:Bl mg):bC P w K mg base CX0 3 f fd pN DG:=by
 have M:bC P w K mg base CX0 2 fNm fdNm pNm spNm:=ok_nm W g B;refine D.F.ok scN (fun vs H Q E h=>?_) (fun I A outer s H vs Q E hr h=>?_)
 ·obtain⟨p,n,fs,rfl,_⟩:=h;rfl
 obtain⟨p,n,fs,rfl,pu,n9,bv,q⟩:=h;have r2:cX 2 _:=hr;refine{_,aD (bQ (oO ["_law_k"] (iH.open (NN:=nN) (N:=nN) (sc:=aN kA) rfl rfl (by decide +kernel) rfl (by decide +kernel) (by decide +kernel) rfl (by decide +kernel)) rfl (jV (by rfl) B.range (bf (pv 1) ai)) (fun _ _ _ _=>dS (i:=0) ndN rfl (Or.inl rfl)) (fun _ _ _ _=>kT) (fun _ _ _ _=>cL vU (bR FP cg (cL gK (pv 3) (pv 0)) (fun _ _=>rfl)) (aM M r2 (by rfl) W.m W.F.kp W.b .nil bh (bf (pv 1) (dP au ai)))))),?_};have big:=eD;refine gk ?_;refine um (fun m G'=>m=n/\G'=H) (fun R hR=>{_,rfl,hR n H ⟨rfl,rfl⟩}) (fun m G' h=>by omega) (fun m G' i ys G=>∃Y:List Str,ys=Y.map V.str/\Y.length=i/\GN fs Y/\dE G p/\But p H G) ?_ ?_ ?_ ?_
 ·rintro m G' ⟨rfl,rfl⟩;exact{[],rfl,rfl,(fun i x e=>by cases e),pu,But.refl _ _}
 ·rintro m G' ⟨rfl,rfl⟩ i ys G hi ⟨Y,rfl,hs,_⟩;rw[av];omega
 ·rintro m G' ⟨rfl,rfl⟩ i ys G hi ⟨Y,rfl,hs,gn,Z,U⟩;refine bK {rfl,?_};unfold xu;refine iA ?_;obtain⟨c,O,hc⟩:=Ku (n:=fs+i) (by omega);refine{_,rfl,_,rfl,_,_,rfl,rfl,abc,_,c,rfl,rfl,ym,(by rw[show (fs:Int)+(0+(i:Int))=((fs+i:Nat):Int) by omega];exact hc),_,rfl,p,5,rfl,Z,by decide,by decide,fun s' G2 ls J z=>{_,_,rfl,rfl,?_,?_}}
  ·show 1+s'.length<=aB;omega
  ·exact{Y++[{#[c]}++s'],by rw[cu];rfl,by rw[ax,hs];rfl,gn.snoc (c:=c) (by rw[hs];exact O) (zp rfl),J,U.trans z}
 ·rintro m G' ⟨rfl,rfl⟩ ys G ⟨Y,rfl,hs,gn,Z,U⟩ l hl;have st:=aH hl (.lst (Y.map V.str));exact q l Y _ (U.dm Z l hl) ah hs gn.nodup (Z.same st) (U.same st)
end
theorem tD{H:Hp}{p lb:aa}{bs:List Str}(pu:dE H p)(hb:H lb=some (.lst (bs.map V.str))):lb≠p:=by
 obtain⟨x,y,e⟩:=pu;refine o6 hb e fun z=>?_
 cases bs with
 |nil=>cases z
 |cons b r=>cases z
theorem kH{bs:List Str}{r:Int}(h0:0<=r)(h1:r<bs.length):∃x,atI (bs.map V.str) r=some (.str x)/\x∈bs:=by
 obtain⟨j,rfl⟩:∃j:Nat,r=(j:Int):={r.toNat,by omega};have lt:j<bs.length:=by omega
 exact{bs[j],jD (by rw[cC,aE lt];rfl),vF lt}
theorem jy.but{bs qs:List Str}{H H':Hp}{p:aa}{v:V}{f:Fm}(pu:dE H p)(b:But p H H')(h:jy bs qs H v f):jy bs qs H' v f:=h.mono fun t xs e=>dX.but pu b _ _ e (nA xs)
theorem uq{n:Int}(h:-1000000<=n/\n<=1000000):Wo n:=by
 have e:(10:Int)^15=1000000000000000:=by decide
 unfold Wo;omega
def zq:List Str:=["plus","less","times","part","rest","below","same","plus"]
theorem Il{r:Int}(h0:0<=r)(h1:r<8):∃x,atI (zq.map V.str) r=some (.str x)/\x∈CI:=by
 obtain⟨x,hx,m⟩:=kH (bs:=zq) h0 h1;refine{x,hx,?_};have:∀y∈zq,y∈CI:=by decide +kernel
 exact this x m
theorem kN{H:Hp}{a:aa}(Z:H a=none)(o:HO):upd H a o a=some o:=ah
theorem vh{t u:TS}{D:mY}{σ:St}{H:Hp}(I:St->Hp->Prop)(hu:∀Z H',I Z H'->u D Z H')(h:∀N:St->Hp->Prop,(∀Z H',I Z H'->N Z H')->t {D with nx:=N} σ H):Jc t u D σ H:=h _ hu
theorem qU{xs:List V}(h:(!xs.isEmpty)=true):0<xs.length:=by
 cases xs with
 |nil=>cases h
 |cons y ys=>exact qv _
theorem zr{x y:V}{b:Bool}:atI [x,y] (if b=true then 1 else 0)=some (if b=true then y else x):=by
 cases b<;>rfl
section
variable{P:aK}{w:bD}{K:ae}{mg:Str->Option af}{base:cB}{f fD fW:aa}{fd fdD fdW:bU}{bs qs:List Str}
seal PS PSs PE PA PT PW PI PG PGs PC
abbrev nFo:List Str:=["_law_purse_here","_law_low","_law_boxes","_law_queues","_law_pick","_law_word","_law_one"]
abbrev pFo:List Str:=["_law_purse_here","_law_low","_law_boxes","_law_queues"]
theorem Kw:bO nFo pFo (aN gY):={}
inductive LR(bs qs:List Str)(n:Nat)(vs:List V)(H:Hp)(Q:VK)(_e:XK):Prop where
 |mk(p lb lq:aa)(d:Nat)(_:vs=[.ref p,.int d,.ref lb,.ref lq])(_:d<n)(_:dE H p)(_:H lb=some (.lst (bs.map V.str)))(_:H lq=some (.lst (qs.map V.str)))(_:bs.length<=9)(_:qs.length<=9)(_:∀(v:V) (F:Fm) (H':Hp),jy bs qs H' v F->F.depth<=d+1->dE H' p->But p H H'->Q v H'):LR bs qs n vs H Q _e
def Im(bs qs:List Str)(n:Nat):Sp:=fun vs H Q Z=>LR bs qs n vs H Q Z
theorem Kx{n:Nat}(D:Df K mg "_law_formula" gY pFo f fd)(W:Df K mg "_law_draw" eJ pD fD fdD)(DW:Df K mg "_law_worth" fY pW fW fdW)(B:Bl mg)(GR:bC P w K mg base CX0 (n+2) f fd pFo (Im bs qs n)):bC P w K mg base CX0 (n+3) f fd pFo (Im bs qs (n+1)):=by
 have GD:bC P w K mg base CX0 1 fD fdD pD j5:=j9 W;have GW:bC P w K mg base CX0 2 fW fdW pW vJ:=xa DW W B;refine D.F.ok Kw (fun vs H Q E h=>?_) (fun eb A outer s H vs Q E hr h=>?_)
 ·obtain⟨p,lb,lq,d,rfl,_⟩:=h;rfl
 obtain⟨p,lb,lq,d,rfl,dn,pu,hb,hq,ej,el,k⟩:=h;have ep:=Eu hr;have r1:cX 1 _:=hr.mono (by omega);have r2:cX 2 _:=hr.mono (by omega);refine{_,aj (bE (i:=4) Kw.nd rfl (Or.inl rfl) (aM GD r1 (by rfl) W.m W.F.kp W.b .nil bh (bf (pv 0) (qI (bR dB (eQ (dP au (dP au ai))) (hV qM (by rfl) B.int boot_int (aq (oG sj (pv 1) au (bY _)) ai)) (fun _ _=>rfl)) ai))))
  (aj (cW (bN rj (pv 4) au (bY _)) (aD (bQ (d9 (dP cg (iw (aM GW r2 (by rfl) DW.m DW.F.kp DW.b .nil bh (bf (pv 0) ai)) ai))))) cj)
  (aj (cW ((oE (bN fh (pv 4) au (bY _)) (mw (bN (y7 ep) (pv 2) (eQ ai) (bY _)))).pt) (aD (bQ (d9 (dP cg (qI (bR dB (pv 2) (aM GD r1 (by rfl) W.m W.F.kp W.b .nil bh (bf (pv 0) (iw (cO (eB K (by rfl)) (by rfl) B.len cb (bf (pv 2) ai)) ai))) (fun _ _=>rfl)) ai))))) cj)
  (aj (cW ((oE (bN fh (pv 4) au (bY _)) (mw (bN (y7 ep) (pv 3) (eQ ai) (bY _)))).pt) (aD (bQ (d9 (dP cg (qI (bR dB (pv 3) (aM GD r1 (by rfl) W.m W.F.kp W.b .nil bh (bf (pv 0) (iw (cO (eB K (by rfl)) (by rfl) B.len cb (bf (pv 3) ai)) ai))) (fun _ _=>rfl)) ai))))) cj)
  (aj (cW (bN fh (pv 4) au (bY _)) (aD (bQ (d9 (dP cg ai)))) cj)
  (aj (cW (bN rj (pv 4) au (bY _)) (aD (bQ (d9 (dP cg (iw (aM GD r1 (by rfl) W.m W.F.kp W.b .nil bh (bf (pv 0) (dP au ai))) ai))))) cj)
  (aj (bE (i:=5) Kw.nd rfl (Or.inl rfl) (bR dB (eQ (dP cg (dP cg (dP cg (dP cg (dP cg (dP cg (dP cg (dP cg ai))))))))) (aM GD r1 (by rfl) W.m W.F.kp W.b .nil bh (bf (pv 0) (dP au ai))) (fun _ _=>rfl)))
  (aj (bE (i:=6) Kw.nd rfl (Or.inl rfl) (aM GR hr (by rfl) D.m D.F.kp D.b .nil bh (bf (pv 0) (oA (cL jn (pv 1) au) (bf (pv 2) (bf (pv 3) ai))))))
  (aD (bQ (d9 (bf (pv 5) (bf (pv 6) (iw (aM GR hr (by rfl) D.m D.F.kp D.b .nil bh (bf (pv 0) (oA (cL jn (pv 1) au) (bf (pv 2) (bf (pv 3) ai))))) ai))))))))))))),?_}
 have big:=eD;have nb:=tD pu hb;have nq:=tD pu hq;refine cy (cZ {_,rfl,lt2,fun l0 ek=>?_});have s0:=aH ek (.lst [.int 6,.int 10]);refine{_,rfl,_,_,rfl,rfl,.inr {_,rfl,l0,_,_,_,rfl,rfl,SqL.of ah,zr,?_}};obtain⟨m,em,m6,md⟩:∃m:Int,(if decide ((d:Int)>0)=true then V.int 10 else V.int 6)=.int m/\(0<m/\m<100)/\(d=0->m=6):=by
  by_cases c:(d:Int)>0
  ·rw[decide_eq_true c];exact{10,rfl,by decide,fun z=>by omega}
  ·rw[decide_eq_false c];exact{6,rfl,by decide,fun _=>rfl}
 rw[em];refine{p,m,rfl,pu.same s0,m6.1,by omega,fun pk G dG ea Z J=>bK ?_};have J:=(But.same (But.refl p H) s0).trans J;clear s0 ek;dsimp only;have I:∀{G:Hp},But p H G->G lb=some (.lst (bs.map V.str)):=fun b=>b _ _ hb nb;have ez:∀{G:Hp},But p H G->G lq=some (.lst (qs.map V.str)):=fun b=>b _ _ hq nq;refine cy (iz {_,rfl,_,_,rfl,rfl,_,rfl,gH (fun _=>?_) (fun _=>?_)})
 ·refine gk {_,rfl,p,rfl,Z,fun r G2 r0 Y U b2=>{lt2,fun t ht=>?_}};have st:=aH ht (.tup [.str "number",.int r]);exact k _ (.num r) _ (.num ah ⟨r0,Y⟩) (by show 1<=d+1;omega) (U.same st) ((J.trans b2).same st)
 dsimp only[o8];refine vh (fun eu G=>eu=[some (.ref p),some (.int d),some (.ref lb),some (.ref lq),some (.int pk),none,none]/\dE G p/\But p H G) ?_ ?_
 rotate_left
 ·intro N hN;refine iz {_,rfl,rfl,_,rfl,gH (fun _=>?_) (fun _=>gu (hN _ _ ⟨rfl,Z,J⟩))};refine{_,rfl,by show 0<=aB;omega,fun e0 ey=>?_};have O:=aH ey (.lst []);refine{lb,e0,_,rfl,rfl,O _ _ (I J),ah,_,rfl,gH (fun ne=>?_) (fun _=>hN _ _ {rfl,Z.same O,J.same O})};have l0:=qU ne;rw[av]at l0;refine gk {_,rfl,_,rfl,_,rfl,lb,_,rfl,.inl (SqL.of (O _ _ (I J))),p,_,rfl,Z.same O,by rw[av];omega,by rw[av];omega,fun r G2 r0 Y U b2=>?_};rw[av]at Y;obtain⟨x,hx,mx⟩:=kH r0 Y;have g:=(J.same O).trans b2;refine{lb,_,_,_,rfl,rfl,SqL.of (I g),hx,lt2,fun t ht=>?_};have st:=aH ht (.tup [.str "box",.str x]);exact k _ (.box x) _ (.box ah mx) (by show 1<=d+1;omega) (U.same st) (g.same st)
 rintro _ G1 ⟨rfl,M,b1⟩;refine vh (fun eu G=>eu=[some (.ref p),some (.int d),some (.ref lb),some (.ref lq),some (.int pk),none,none]/\dE G p/\But p H G) ?_ ?_
 rotate_left
 ·intro N hN;refine iz {_,rfl,rfl,_,rfl,gH (fun _=>?_) (fun _=>gu (hN _ _ ⟨rfl,M,b1⟩))};refine{_,rfl,by show 0<=aB;omega,fun e0 ey=>?_};have O:=aH ey (.lst []);refine{lq,e0,_,rfl,rfl,O _ _ (ez b1),ah,_,rfl,gH (fun ne=>?_) (fun _=>hN _ _ {rfl,M.same O,b1.same O})};have l0:=qU ne;rw[av]at l0;refine gk {_,rfl,_,rfl,_,rfl,lq,_,rfl,.inl (SqL.of (O _ _ (ez b1))),p,_,rfl,M.same O,by rw[av];omega,by rw[av];omega,fun r G2 r0 Y U b2=>?_};rw[av]at Y;obtain⟨x,hx,mx⟩:=kH r0 Y;have g:=(b1.same O).trans b2;refine{lq,_,_,_,rfl,rfl,SqL.of (ez g),hx,lt2,fun t ht=>?_};have st:=aH ht (.tup [.str "long",.str x]);exact k _ (.long x) _ (.long ah mx) (by show 1<=d+1;omega) (U.same st) (g.same st)
 rintro _ G ⟨rfl,Z,J⟩;clear M b1;refine cy (iz {_,rfl,rfl,_,rfl,gH (fun _=>?_) (fun _=>?_)})
 ·refine gk {BR,fun t ht=>?_};have st:=aH ht (.tup [.str "now"]);exact k _ .now _ (.now ah) (by show 1<=d+1;omega) (Z.same st) (J.same st)
 dsimp only[o8];refine cy (iz {_,rfl,_,_,rfl,rfl,_,rfl,gH (fun _=>?_) (fun c6=>?_)})
 ·refine gk {_,rfl,p,2,rfl,Z,by decide,by decide,fun a4 G4 a40 a41 ec b4=>{lt2,fun t4 eh=>?_}};have q4:=aH eh (.tup [.str "got",.int a4]);have er:a4=if (decide (a4=1))=true then 1 else 0:=by
   by_cases c:a4=1
   ·rw[decide_eq_true c,if_pos rfl];exact c
   ·rw[decide_eq_false c,if_neg (by decide)];omega
  exact k _ (.got (decide (a4=1))) _ (.got (by rw[ah,<- er])) (by show 1<=d+1;omega) (ec.same q4) ((J.trans b4).same q4)
 dsimp only[o8];have c6:¬pk<6:=fun z=>c6 (decide_eq_true z);obtain⟨e,rfl⟩:∃e,d=e+1:={d-1,by
  by_cases z:d=0
  ·have:=md z;omega
  ·omega}
 have eo:((e+1:Nat):Int)-1=(e:Int):=by omega
 refine cy (cZ {by show 8<=aB;omega,fun l hl=>?_});have ql:=aH hl (.lst (zq.map V.str));refine{_,rfl,p,8,rfl,Z.same ql,by decide,by decide,fun r G1 r0 Y M b1=>?_};have ef:l≠p:=q9 Z hl;obtain⟨x,hx,mx⟩:=Il r0 Y;refine{l,_,_,_,rfl,rfl,SqL.of (b1 _ _ ah ef),hx,bK ?_};dsimp only;have et:But p H G1:=(J.same ql).trans b1;refine cy (cZ {_,rfl,_,rfl,_,_,rfl,rfl,_,rfl,_,rfl,p,lb,lq,e,(by show [V.ref p,V.int (((e+1:Nat):Int)-1),V.ref lb,V.ref lq]=_;rw[eo]),by omega,M,I et,ez et,ej,el,fun v1 F1 G2 ei dV U b2=>bK ?_});dsimp only;have ew:=et.trans b2;refine gk {_,rfl,_,rfl,_,rfl,_,rfl,_,_,rfl,rfl,_,rfl,_,rfl,p,lb,lq,e,(by show [V.ref p,V.int (((e+1:Nat):Int)-1),V.ref lb,V.ref lq]=_;rw[eo]),by omega,U,I ew,ez ew,ej,el,fun v2 F2 G3 ed dL ee b3=>{by show 3<=aB;omega,fun t ht=>?_}};have qt:=aH ht (.tup [.str x,v1,v2]);exact k _ (.two x F1 F2) _ (.two ah mx ((ei.but U b3).mono fun t xs e=>qt _ _ e) (ed.mono fun t xs e=>qt _ _ e)) (by show max F1.depth F2.depth+1<=e+1+1;omega) (ee.same qt) ((ew.trans b3).same qt)
theorem Io(D:Df K mg "_law_formula" gY pFo f fd)(Y:Df K mg "_law_draw" eJ pD fD fdD)(Z:Df K mg "_law_worth" fY pW fW fdW)(B:Bl mg):∀n:Nat,bC P w K mg base CX0 (n+2) f fd pFo (Im bs qs n)
 |0=>{fun vs H Q E h=>by
   obtain⟨p,lb,lq,d,_,h,_⟩:=h;omega,fun A outer s H args us vs Q E _ _ _ _ h=>by
   obtain⟨p,lb,lq,d,_,h,_⟩:=h;omega}
 |n+1=>Kx D Y Z B (Io D Y Z B n)
end
end My
namespace L2
open PySem PySem.Spec PyProof.Rows PySem.SeqAt
section
variable{X:Cx}
theorem Oi(hu:X.A.units+50<dY):OpR X (cN .Eq) (fun x y H Q=>∃p q xs,x=.ref p/\y=.ref q/\H p=some (.lst xs)/\H q=some (.lst [])/\Q (.bl xs.isEmpty) H):=by
 intro pins s σ H x y v u Q I Y Z h;obtain⟨p,q,xs,rfl,rfl,h1,h2,k⟩:=h
 cases Y
 cases Z;obtain⟨us,r1,i1⟩:=iq I.hok h1;obtain⟨vs,r2,i2⟩:=iq I.hok h2
 cases r2;have hl:=r1.length
 cases xs with
 |nil=>
  cases r1;exact RcAt.lists (A:=X.A) (e:=fun _=>true) i1 i2 rfl (by omega) (fun j a b=>absurd a (gD _)) X.prog X.w _ _ {.bl true,H,I,rfl,k}
 |cons a xs=>
  exact RcAt.lists_lengths i1 i2 (by
   cases us with
   |nil=>cases hl
   |cons b us=>simp) (by omega) X.prog X.w _ _ {.bl false,H,I,rfl,k}
end
end L2
namespace My
open PySem L2
structure Th(H:Hp)(lt lb lq:aa)(bs qs:List Str):Prop where
 ht:H lt=some (.tup [.ref lb,.ref lq])
 hb:H lb=some (.lst (bs.map V.str))
 hq:H lq=some (.lst (qs.map V.str))
 lb:bs.length<=9
 lq:qs.length<=9
theorem Th.keepI{H H':Hp}{lt lb lq:aa}{bs qs:List Str}(k:dX H H')(h:Th H lt lb lq bs qs):Th H' lt lb lq bs qs:=
 {k _ _ h.ht (nA _),k _ _ h.hb (Dv _),k _ _ h.hq (Dv _),h.lb,h.lq}
theorem Iq{r:Int}(h0:0<=r)(h1:r<3):∃x:Str,atI [V.str "go",.str "on",.str "stop"] r=some (.str x):=by
 obtain⟨x,hx,_⟩:=kH (bs:=["go","on","stop"]) h0 h1;exact⟨x,hx⟩
section
variable{P:aK}{w:bD}{K:ae}{mg:Str->Option af}{base:cB}{f fD fW fF fSe fS fE:aa}{fd fdD fdW fdF fdSe fdS fdE:bU}{bs qs:List Str}
seal PS PSs PE PA PT PW PI PG PGs PC
abbrev nSd:List Str:=["_law_purse_here","_law_there","_law_many","_law_boxes","_law_queues","_law_span","_law_to","_law_sign_here","_law_one"]
abbrev pSd:List Str:=["_law_purse_here","_law_there","_law_many"]
theorem AL:bO nSd pSd (aN lO):={}
inductive LS(bs qs:List Str)(vs:List V)(H:Hp)(Q:VK)(_e:XK):Prop where
 |mk(p lt lb lq:aa)(m:Int)(_:vs=[.ref p,.ref lt,.int m])(_:dE H p)(_:Th H lt lb lq bs qs)(_:0<m)(_:m<1000)(_:∀(v:V) (dd:Dd) (H':Hp),OwD bs qs H H' dd v->dd.toOk m->dd.deep=0->dd.size<=1->dE H' p->But p H H'->Q v H'):LS bs qs vs H Q _e
def spSd(bs qs:List Str):Sp:=fun vs H Q Z=>LS bs qs vs H Q Z
theorem ok_sd(D:Df K mg "_law_send" lO pSd f fd)(O:Df K mg "_law_formula" gY pFo fF fdF)(Z:Df K mg "_law_draw" eJ pD fD fdD)(DW:Df K mg "_law_worth" fY pW fW fdW)(B:Bl mg):bC P w K mg base CX0 5 f fd pSd (spSd bs qs):=by
 have GD:bC P w K mg base CX0 1 fD fdD pD j5:=j9 Z;have GF:bC P w K mg base CX0 4 fF fdF pFo (Im bs qs 2):=Io O Z DW B 2;refine D.F.ok AL (fun vs H Q E h=>?_) (fun ej A outer s H vs Q E hr h=>?_)
 ·obtain⟨p,lt,lb,lq,m,rfl,_⟩:=h;rfl
 obtain⟨p,lt,lb,lq,m,rfl,pu,T,m0,m1,k⟩:=h;have r1:cX 1 _:=hr.mono (by decide);have r4:cX 4 _:=hr;refine{_,aj (rF (pv 1) (vQ rfl (je (dS (i:=3) AL.nd rfl (Or.inl rfl)) (je (dS (i:=4) AL.nd rfl (Or.inl rfl)) sh))))
  (aj (bE (i:=5) AL.nd rfl (Or.inl rfl) (d9 (dP cg (oA (cL gK au (aM GD r1 (by rfl) Z.m Z.F.kp Z.b .nil bh (bf (pv 0) (dP au ai)))) ai))))
  (aj (cW (bN fh (aM GD r1 (by rfl) Z.m Z.F.kp Z.b .nil bh (bf (pv 0) (dP au ai))) au (bY _)) (aD (bE (i:=5) AL.nd rfl (Or.inl rfl) (aM GF r4 (by rfl) O.m O.F.kp O.b .nil bh (bf (pv 0) (dP au (bf (pv 3) (bf (pv 4) ai))))))) cj)
  (aj (bE (i:=6) AL.nd rfl (Or.inl rfl) (aM GD r1 (by rfl) Z.m Z.F.kp Z.b .nil bh (bf (pv 0) (bf (pv 2) ai))))
  (aj (bE (i:=7) AL.nd rfl (Or.inl rfl) (bR dB (eQ (dP cg (dP cg (dP cg ai)))) (aM GD r1 (by rfl) Z.m Z.F.kp Z.b .nil bh (bf (pv 0) (dP au ai))) (fun _ _=>rfl)))
  (aj (bE (i:=8) AL.nd rfl (Or.inl rfl) (aM GF r4 (by rfl) O.m O.F.kp O.b .nil bh (bf (pv 0) (dP au (bf (pv 3) (bf (pv 4) ai))))))
  (aD (bQ (d9 (dP cg (bf (pv 6) (bf (pv 7) (bf (pv 5) (iw (aM GD r1 (by rfl) Z.m Z.F.kp Z.b .nil bh (bf (pv 0) (dP au ai))) (bf (pv 8) (iw (aM GF r4 (by rfl) O.m O.F.kp O.b .nil bh (bf (pv 0) (dP au (bf (pv 3) (bf (pv 4) ai))))) ai))))))))))))))),?_}
 have big:=eD;refine cy (cZ {_,rfl,lt,_,rfl,SqT.of T.ht,rfl,_,_,rfl,bK {_,_,rfl,bK {rfl,?_}}});dsimp only;refine cy (cZ {_,rfl,p,7,rfl,pu,by decide,by decide,fun a G a0 a1 em bG=>{_,_,rfl,rfl,lt2,fun t1 eF=>bK ?_}});dsimp only;have s1:=aH eF (.tup [.str "number",.int (1+a)]);have J:=(dX.but pu bG).trans (dX.same s1);have W:=em.same s1;have b1:=bG.same s1;have f1:FmI bs qs (upd G t1 (.tup [.str "number",.int (1+a)])) (.ref t1) (.num (1+a)):={.num ah (uq (by omega)),by show 1<=15;decide};revert J W b1 f1;clear s1 eF;generalize upd G t1 (.tup [.str "number",.int (1+a)])=G1;intro J W b1 f1
 -- the span
 refine vh (fun el G=>∃(v5:V) (F:Fm),el=[some (.ref p),some (.ref lt),some (.int m),some (.ref lb),some (.ref lq),some v5,none,none,none]/\FmI bs qs G v5 F/\dE G p/\But p H G/\dX H G) ?_ ?_
 rotate_left
 ·intro N hN;refine iz {_,rfl,p,8,rfl,W,by decide,by decide,fun r G2 r0 r8 Y I=>{rfl,_,rfl,gH (fun _=>?_) (fun _=>hN _ _ {_,_,rfl,f1.keepI (dX.but W I),Y,b1.trans I,J.trans (dX.but W I)})}};have M:=J.trans (dX.but W I);have T2:=T.keepI M;refine cZ {_,rfl,_,rfl,_,rfl,p,lb,lq,1,rfl,by decide,Y,T2.hb,T2.hq,T.lb,T.lq,fun v F G3 hF dF U g=>bK (hN _ _ {v,F,rfl,{hF,by omega},U,(b1.trans I).trans g,M.trans (dX.but Y g)})}
 rintro _ G2 ⟨v5,F5,rfl,f5,Y,I,M⟩;refine cy (cZ {_,rfl,_,rfl,p,m,rfl,Y,by omega,by omega,fun to G3 to0 to1 U g=>bK ?_});dsimp only;refine cy (cZ {by show 3<=aB;omega,fun l3 ez=>?_});have s3:=aH ez (.lst [.str "go",.str "on",.str "stop"]);refine{_,rfl,p,3,rfl,U.same s3,by decide,by decide,fun r G4 r0 r3 eu b4=>?_};obtain⟨sg,ek⟩:=Iq r0 r3;refine{l3,_,_,_,rfl,rfl,SqL.of (b4 _ _ ah (q9 U ez)),ek,bK ?_};dsimp only;have ey:=((dX.but Y g).trans (dX.same s3)).trans (dX.but (U.same s3) b4);have T4:=T.keepI (M.trans ey);refine cy (cZ {_,rfl,_,rfl,_,rfl,p,lb,lq,1,rfl,by decide,eu,T4.hb,T4.hq,T.lb,T.lq,fun v6 F6 G5 ep ei eH b5=>bK ?_});dsimp only;refine gk {_,rfl,_,rfl,_,rfl,_,rfl,p,10,rfl,eH,by decide,by decide,fun rk G6 ee eh et b6=>{_,rfl,_,rfl,_,rfl,_,rfl,?_}};have eL:=dX.but eu b5;have z:=dX.but eH b6;have T6:=T4.keepI (eL.trans z);refine{p,lb,lq,0,rfl,by decide,et,T6.hb,T6.hq,T.lb,T.lq,fun v7 F7 G7 eo ef er b7=>{by show 7<=aB;omega,fun t ht=>?_}};have st:=aH ht (.tup [.str "send",.int to,.str sg,v5,.int rk,v6,v7]);have f6:FmI bs qs G5 v6 F6:={ep,by omega};have f7:FmI bs qs G7 v7 F7:={eo,by omega};have ew:=(dX.but et b7).trans (dX.same st);exact k _ (.send to sg F5 rk F6 F7) _ (Kn ah (f5.keepI (((ey.trans eL).trans z).trans ew)) (f6.keepI (z.trans ew)) (f7.keepI (dX.same st))) ⟨to0,to1⟩ rfl (ay _) (er.same st) ((((((I.trans g).same s3).trans b4).trans b5).trans b6).trans b7 |>.same st)
end
structure Gro(bs qs:List Str)(m:Int)(dp S:Nat)(B G:Hp)(l0:aa)(i:Nat):Prop where
 ex:∃(xs:List V) (ds:Ds),G l0=some (.lst xs)/\xs.length<=i/\OwS bs qs B G ds xs/\ds.toOk m/\ds.deep<=dp/\ds.size<=i*S
theorem Gro.up{bs qs:List Str}{m:Int}{dp S:Nat}{B G:Hp}{Z:aa}{i:Nat}(h:Gro bs qs m dp S B G Z i):Gro bs qs m dp S B G Z (i+1):=by
 obtain⟨xs,ds,h1,h2,V,U,Y,W⟩:=h.ex;exact{xs,ds,h1,by omega,V,U,Y,dA W (EV _ (gs _))}
theorem Gro.keepI{bs qs:List Str}{m:Int}{dp S:Nat}{B G G':Hp}{Z:aa}{i:Nat}(h:Gro bs qs m dp S B G Z i)(k:dX G G'):Gro bs qs m dp S B G' Z i:=by
 obtain⟨xs,ds,h1,h2,Y,U,W,V⟩:=h.ex;exact{xs,ds,k _ _ h1 Y.now.ni,h2,Y.keepI k,U,W,V}
theorem Gro.step{bs qs:List Str}{m:Int}{dp S:Nat}{B G W:Hp}{p M Z:aa}{i:Nat}{xs:List V}{ds:Ds}{v:V}{dd:Dd}(H:Z∉[p,M])(L:Lf G p M)(k:Kp [p,M] G W)(J:B Z≠none)(dm:Dm B G)(hx:G Z=some (.lst xs))(D:xs.length<=i)(O:OwS bs qs B G ds xs)(to:ds.toOk m)(d1:ds.deep<=dp)(sz:ds.size<=i*S)
  (I:OwD bs qs G W dd v) (t:dd.toOk m) (d2:dd.deep<=dp) (s2:dd.size<=S):Gro bs qs m dp S B (upd W Z (.lst (xs++[v]))) Z (i+1):=by
 have U:=k _ _ hx H;have ol:G Z≠none:=by
  rw[hx];intro z
  cases z
 have Y:∀ys,W Z≠some (.tup ys):=fun ys z=>by
  rw[U]at z
  cases z
 refine{xs++[v],qJ ds dd,ah,by rw[ax];show xs.length+1<=i+1;omega,Ij ((O.keepI (k.keepI L.int)).old J Y) ((I.old ol Y).base dm),Dy t ds to,by rw[yn];omega,?_};rw[yo,B1];omega
theorem Lf.put{G:Hp}{p Z W:aa}{o:HO}(L:Lf G p Z)(Y:W∉[p,Z]):Lf (upd G W o) p Z:=by
 obtain⟨x,y,e⟩:=L.pu;obtain⟨z,e'⟩:=L.hl;exact{{x,y,aT e (fun q=>Y (by rw[<- q];exact aC))},z,aT e' (fun q=>Y (by rw[<- q];exact ag _ aC))}
theorem Lf.kp'{H G:Hp}{p Z:aa}(Y:Lf G p Z)(b:But p H G):Kp [p,Z] H G:=Kp.but b aC
structure Dr(H G:Hp)(p lf lt lb lq:aa)(bs qs:List Str):Prop where
 L:Lf G p lf
 T:Th G lt lb lq bs qs
 k:Kp [p,lf] H G
theorem Dr.but{H G G':Hp}{p Z lt lb lq:aa}{bs qs:List Str}(d:Dr H G p Z lt lb lq bs qs)(b:But p G G')(pu:dE G' p):Dr H G' p Z lt lb lq bs qs:={d.L.but b pu,d.T.keepI (dX.but d.L.pu b),d.k.trans (Kp.but b aC)}
theorem Dr.same{H G G':Hp}{p Z lt lb lq:aa}{bs qs:List Str}(d:Dr H G p Z lt lb lq bs qs)(s:aY G G'):Dr H G' p Z lt lb lq bs qs:={d.L.same s,d.T.keepI (dX.same s),d.k.trans (Kp.same s)}
theorem Dr.kp{H G G':Hp}{p Z lt lb lq:aa}{bs qs:List Str}(d:Dr H G p Z lt lb lq bs qs)(k:Kp [p,Z] G G')(L:Lf G' p Z):Dr H G' p Z lt lb lq bs qs:={L,d.T.keepI (k.keepI d.L.int),d.k.trans k}
theorem Dr.dm{H G:Hp}{p Z lt lb lq:aa}{bs qs:List Str}(d:Dr H G p Z lt lb lq bs qs):Dm H G:=d.k.dm d.L.there
section
variable{P:aK}{w:bD}{K:ae}{mg:Str->Option af}{base:cB}{f fD fW fF fSe fS fE:aa}{fd fdD fdW fdF fdSe fdS fdE:bU}{bs qs:List Str}
seal PS PSs PE PA PT PW PI PG PGs PC
abbrev nLd:List Str:=["_law_purse_here","_law_low","_law_left","_law_there","_law_many","_law_boxes","_law_queues","_law_pick","_law_queue","_law_formula_here","_law_ones"]
abbrev pLd:List Str:=["_law_purse_here","_law_low","_law_left","_law_there","_law_many"]
theorem B2:bO nLd pLd (aN lP):={}
abbrev nLs:List Str:=["_law_purse_here","_law_low","_law_left","_law_there","_law_many","_law_found","_law_k"]
abbrev pLs:List Str:=["_law_purse_here","_law_low","_law_left","_law_there","_law_many"]
theorem Oj:bO nLs pLs (aN jv):={}
inductive LU(bs qs:List Str)(n:Nat)(vs:List V)(H:Hp)(Q:VK)(_e:XK):Prop where
 |mk(p lt lb lq lf:aa)(m:Int)(d:Nat)(_:vs=[.ref p,.int d,.ref lf,.ref lt,.int m])(_:d<n)(_:Lf H p lf)(_:Th H lt lb lq bs qs)(_:0<m)(_:m<1000)(_:∀(v:V) (dd:Dd) (H':Hp),OwD bs qs H H' dd v->dd.toOk m->dd.deep<=d->dd.size<=ddz d->Lf H' p lf->Kp [p,lf] H H'->Q v H'):LU bs qs n vs H Q _e
def spLd(bs qs:List Str)(n:Nat):Sp:=fun vs H Q Z=>LU bs qs n vs H Q Z
inductive LV(bs qs:List Str)(n:Nat)(vs:List V)(H:Hp)(Q:VK)(_e:XK):Prop where
 |mk(p lt lb lq lf:aa)(m:Int)(d:Nat)(_:vs=[.ref p,.int d,.ref lf,.ref lt,.int m])(_:d<n)(_:Lf H p lf)(_:Th H lt lb lq bs qs)(_:0<m)(_:m<1000)(_:∀(l:aa) (xs:List V) (ds:Ds) (H':Hp),H l=none->H' l=some (.lst xs)->xs.length<1000->OwS bs qs H H' ds xs->ds.toOk m->ds.deep<=d->ds.size<=3*ddz d->Lf H' p lf->Kp [p,lf] H H'->Q (.ref l) H'):LV bs qs n vs H Q _e
def Ir(bs qs:List Str)(n:Nat):Sp:=fun vs H Q Z=>LV bs qs n vs H Q Z
theorem Ky{n kk:Nat}(hk:5<=kk)(D:Df K mg "_law_deed" lP pLd f fd)(DS:Df K mg "_law_deeds" jv pLs fS fdS)(GS:bC P w K mg base CX0 kk fS fdS pLs (Ir bs qs n))(hI:Df K mg "_law_send" lO pSd fSe fdSe)(DF:Df K mg "_law_formula" gY pFo fF fdF)(Z:Df K mg "_law_draw" eJ pD fD fdD)(DW:Df K mg "_law_worth" fY pW fW fdW)(B:Bl mg) :
  bC P w K mg base CX0 (kk+1) f fd pLd (spLd bs qs (n+1)):=by
 have GD:bC P w K mg base CX0 1 fD fdD pD j5:=j9 Z;have GF:bC P w K mg base CX0 5 fF fdF pFo (Im bs qs 3):=Io DF Z DW B 3;have gM:bC P w K mg base CX0 5 fSe fdSe pSd (spSd bs qs):=ok_sd hI DF Z DW B;refine D.F.ok B2 (fun vs H Q E h=>?_) (fun fe A outer s H vs Q E hr h=>?_)
 ·obtain⟨p,lt,lb,lq,W,m,d,rfl,_⟩:=h;rfl
 obtain⟨p,lt,lb,lq,W,m,d,rfl,dn,L,T,m0,m1,k⟩:=h;have hf:=Eu hr;have r1:cX 1 _:=hr.mono (by omega);have r5:cX 5 _:=hr.mono hk;refine{_,aj (rF (pv 3) (vQ rfl (je (dS (i:=5) B2.nd rfl (Or.inl rfl)) (je (dS (i:=6) B2.nd rfl (Or.inl rfl)) sh))))
  (aj (bE (i:=7) B2.nd rfl (Or.inl rfl) (aM GD r1 (by rfl) Z.m Z.F.kp Z.b .nil bh (bf (pv 0) (dP au ai))))
  (aj (cW ((Fp (bN rj (pv 7) au (bY _)) (A4 ((oE (bN rj (pv 7) au (bY _)) (mw (bN (Oi hf) (pv 5) (eQ ai) (bY _)))).pt))).pt) (aD (bQ (aM gM r5 (by rfl) hI.m hI.F.kp hI.b .nil bh (bf (pv 0) (bf (pv 3) (bf (pv 4) ai)))))) cj)
  (aj (cW (bN rj (pv 7) au (bY _)) (aD (bQ (d9 (dP cg (qI (bR dB (pv 5) (aM GD r1 (by rfl) Z.m Z.F.kp Z.b .nil bh (bf (pv 0) (iw (cO (eB K (by rfl)) (by rfl) B.len cb (bf (pv 5) ai)) ai))) (fun _ _=>rfl)) (iw (aM GF r5 (by rfl) DF.m DF.F.kp DF.b .nil bh (bf (pv 0) (dP au (bf (pv 5) (bf (pv 6) ai))))) ai)))))) cj)
  (aj (cW (bN fh (pv 7) au (bY _)) (aD (bQ (d9 (dP cg (qI (bR dB (pv 5) (aM GD r1 (by rfl) Z.m Z.F.kp Z.b .nil bh (bf (pv 0) (iw (cO (eB K (by rfl)) (by rfl) B.len cb (bf (pv 5) ai)) ai))) (fun _ _=>rfl)) (zo (d9 (dP cg (oA (cL gK au (aM GD r1 (by rfl) Z.m Z.F.kp Z.b .nil bh (bf (pv 0) (dP au ai)))) ai))) ai)))))) cj)
  (aj (cW ((oE (bN fh (pv 7) au (bY _)) (oE (bN (y7 hf) (pv 6) (eQ ai) (bY _)) (mw (bN sj (pv 1) au (bY _))))).pt) (aj (bE (i:=8) B2.nd rfl (Or.inl rfl) (bR dB (pv 6) (aM GD r1 (by rfl) Z.m Z.F.kp Z.b .nil bh (bf (pv 0) (iw (cO (eB K (by rfl)) (by rfl) B.len cb (bf (pv 6) ai)) ai))) (fun _ _=>rfl)))
  (aD (bQ (d9 (dP cg (bf (pv 8) (qI (bR dB (pv 5) (aM GD r1 (by rfl) Z.m Z.F.kp Z.b .nil bh (bf (pv 0) (iw (cO (eB K (by rfl)) (by rfl) B.len cb (bf (pv 5) ai)) ai))) (fun _ _=>rfl)) (iw (aM GS hr (by rfl) DS.m DS.F.kp DS.b .nil bh (bf (pv 0) (oA (cL jn (pv 1) au) (bf (pv 2) (bf (pv 3) (bf (pv 4) ai)))))) ai)))))))) cj)
  (aj (cW ((oE (bN fh (pv 7) au (bY _)) (mw (bN (y7 hf) (pv 6) (eQ ai) (bY _)))).pt) (aD (bQ (d9 (dP cg (qI (bR dB (pv 6) (aM GD r1 (by rfl) Z.m Z.F.kp Z.b .nil bh (bf (pv 0) (iw (cO (eB K (by rfl)) (by rfl) B.len cb (bf (pv 6) ai)) ai))) (fun _ _=>rfl)) (iw (aM GF r5 (by rfl) DF.m DF.F.kp DF.b .nil bh (bf (pv 0) (dP au (bf (pv 5) (bf (pv 6) ai))))) ai)))))) cj)
  (aj (cW ((oE (bN rj (pv 7) au (bY _)) (mw (bN sj (pv 1) au (bY _)))).pt) (aj (bE (i:=9) B2.nd rfl (Or.inl rfl) (aM GF r5 (by rfl) DF.m DF.F.kp DF.b .nil bh (bf (pv 0) (dP au (bf (pv 5) (bf (pv 6) ai))))))
  (aj (bE (i:=10) B2.nd rfl (Or.inl rfl) (aM GS hr (by rfl) DS.m DS.F.kp DS.b .nil bh (bf (pv 0) (oA (cL jn (pv 1) au) (bf (pv 2) (bf (pv 3) (bf (pv 4) ai)))))))
  (aD (bQ (d9 (dP cg (bf (pv 9) (bf (pv 10) (iw (aM GS hr (by rfl) DS.m DS.F.kp DS.b .nil bh (bf (pv 0) (oA (cL jn (pv 1) au) (bf (pv 2) (bf (pv 3) (bf (pv 4) ai)))))) ai))))))))) cj)
  (aj (cW ((oE (bN fh (pv 7) au (bY _)) (mw (bN fh (aM GD r1 (by rfl) Z.m Z.F.kp Z.b .nil bh (bf (pv 0) (dP au ai))) au (bY _)))).pt) (aD (bQ (d9 (dP cg ai)))) cj)
  (aD (bQ (aM gM r5 (by rfl) hI.m hI.F.kp hI.b .nil bh (bf (pv 0) (bf (pv 3) (bf (pv 4) ai)))))))))))))),?_}
 have big:=eD;have dz:=Kr d;have ha:=T.lb;have hz:=T.lq;refine cy (cZ {_,rfl,lt,_,rfl,SqT.of T.ht,rfl,_,_,rfl,bK {_,_,rfl,bK {rfl,?_}}});dsimp only;refine cy (cZ {_,rfl,p,12,rfl,L.pu,by decide,by decide,fun pk G fo ft hA bG=>bK ?_});dsimp only;have d0:Dr H H p W lt lb lq bs qs:={L,T,Kp.refl _ _};have dG:=d0.but bG hA
 -- a send
 have hn:∀{G:Hp},Dr H G p W lt lb lq bs qs->∀(v:V) (dd:Dd) (H':Hp),OwD bs qs G H' dd v->dd.toOk m->dd.deep=0->dd.size<=1->dE H' p->But p G H'->Q v H':=fun d1 v dd H' hO t e1 e2 fz b'=>k v dd H' (hO.base d1.dm) t (by omega) (by omega) (d1.L.but b' fz) (d1.k.trans (Kp.but b' aC));refine vh (fun U G=>U=[some (.ref p),some (.int d),some (.ref W),some (.ref lt),some (.int m),some (.ref lb),some (.ref lq),some (.int pk),none,none,none]/\(pk<8->0<bs.length)/\Dr H G p W lt lb lq bs qs) ?_ ?_
 rotate_left
 ·intro N g;refine iz {_,rfl,_,_,rfl,rfl,_,rfl,gH (fun _=>?_) (fun c4=>?_)}
  ·exact iA (gk {_,rfl,_,rfl,_,rfl,p,lt,lb,lq,m,rfl,hA,dG.T,m0,m1,hn dG})
  refine{_,rfl,_,_,rfl,rfl,_,rfl,gH (fun _=>?_) (fun c8=>gu (g _ _ {rfl,fun z=>absurd (decide_eq_true z) c8,dG}))};refine{_,rfl,by show 0<=aB;omega,fun e0 hG=>?_};have u0:=aH hG (.lst []);have d1:=dG.same u0;refine{lb,e0,_,rfl,rfl,d1.T.hb,ah,_,rfl,gH (fun _=>?_) (fun ne=>g _ _ {rfl,fun _=>?_,d1})}
  ·exact gk {_,rfl,_,rfl,_,rfl,p,lt,lb,lq,m,rfl,d1.L.pu,d1.T,m0,m1,hn d1}
  ·cases bs with
   |nil=>exact absurd rfl ne
   |cons y ys=>exact qv _
 rintro _ G1 ⟨rfl,c8,d1⟩;clear dG hA bG
 -- a box, drawn
 have bx:∀{G:Hp} {R:VK},pk<8->Dr H G p W lt lb lq bs qs->(∀(x:Str) (G':Hp),x∈bs->dE G' p->But p G G'->Dr H G' p W lt lb lq bs qs->R (.str x) G')->j5 [V.ref p,V.int ((bs.map V.str).length:Int)] G (fun y H2=>M4 K (.ref lb) y H2 R) E0:=fun c d2 q=>by
  have l0:=c8 c;refine{p,_,rfl,d2.L.pu,by rw[av];omega,by rw[av];omega,fun r G2 r0 J M b2=>?_};rw[av]at J;obtain⟨x,hx,mx⟩:=kH r0 J;have d3:=d2.but b2 M;exact{lb,_,_,_,rfl,rfl,SqL.of d3.T.hb,hx,q x G2 mx M b2 d3}
 refine cy (iz {_,rfl,_,_,rfl,rfl,_,rfl,gH (fun c6=>?_) (fun _=>?_)})
 ·have c6:pk<6:=of_decide_eq_true c6;refine gk {_,rfl,_,rfl,_,rfl,lb,_,rfl,.inl (SqL.of d1.T.hb),bx (by omega) d1 fun x G2 mx M b2 d2=>?_};refine{_,rfl,_,rfl,_,rfl,p,lb,lq,2,rfl,by decide,M,d2.T.hb,d2.T.hq,ha,hz,fun v F G3 hF dF hC b3=>{by show 3<=aB;omega,fun t ht=>?_}};have st:=aH ht (.tup [.str "put",.str x,v]);have d3:=(d2.but b3 hC).same st;have fI:FmI bs qs G3 v F:={hF,by omega};exact k _ (.put x F) _ (Od ah mx (fI.keepI (dX.same st))) trivial (bV _) dz d3.L d3.k
 dsimp only[o8];refine cy (iz {_,rfl,rfl,_,rfl,gH (fun c6=>?_) (fun _=>?_)})
 ·have c6:pk=6:=V.int.inj (of_decide_eq_true c6);refine gk {_,rfl,_,rfl,_,rfl,lb,_,rfl,.inl (SqL.of d1.T.hb),bx (by omega) d1 fun x G2 mx M b2 d2=>?_};refine{_,rfl,p,20,rfl,M,by decide,by decide,fun a G3 a0 a1 hC b3=>{_,_,rfl,rfl,lt2,fun t1 gr=>{by show 3<=aB;omega,fun t ht=>?_}}};have s1:=aH gr (.tup [.str "number",.int (1+a)]);have st:=aH ht (.tup [.str "draw",.str x,.ref t1]);have d3:=((d2.but b3 hC).same s1).same st;exact k _ (.draw x (.num (1+a))) _ (Km ah mx {.num (st _ _ ah) (uq (by omega)),by show 1<=15;decide}) trivial (bV _) dz d3.L d3.k
 dsimp only[o8]
 -- pull
 refine vh (fun U G=>U=[some (.ref p),some (.int d),some (.ref W),some (.ref lt),some (.int m),some (.ref lb),some (.ref lq),some (.int pk),none,none,none]/\Dr H G p W lt lb lq bs qs) ?_ ?_
 rotate_left
 ·intro N g;refine iz {_,rfl,rfl,_,rfl,gH (fun c7=>?_) (fun _=>gu (g _ _ ⟨rfl,d1⟩))};have c7:pk=7:=V.int.inj (of_decide_eq_true c7);refine{_,rfl,by show 0<=aB;omega,fun e0 hG=>?_};have u0:=aH hG (.lst []);have d2:=d1.same u0;refine{lq,e0,_,rfl,rfl,d2.T.hq,ah,_,rfl,gH (fun ne=>?_) (fun _=>gu (g _ _ ⟨rfl,d2⟩))};refine{_,rfl,_,_,rfl,rfl,_,rfl,gH (fun cd=>?_) (fun _=>g _ _ ⟨rfl,d2⟩)};have cd:(d:Int)>0:=of_decide_eq_true cd;obtain⟨e,rfl⟩:∃e,d=e+1:={d-1,by omega};have hj:((e+1:Nat):Int)-1=(e:Int):=by omega
  have l0:=qU ne;rw[av]at l0;refine cy (cZ {_,rfl,_,rfl,_,rfl,lq,_,rfl,.inl (SqL.of d2.T.hq),p,_,rfl,d2.L.pu,by rw[av];omega,by rw[av];omega,fun r G2 r0 J M b2=>?_});rw[av]at J;obtain⟨y,hy,my⟩:=kH r0 J;have d3:=d2.but b2 M;refine{lq,_,_,_,rfl,rfl,SqL.of d3.T.hq,hy,bK ?_};dsimp only;refine gk {_,rfl,_,rfl,_,rfl,_,rfl,lb,_,rfl,.inl (SqL.of d3.T.hb),bx (by omega) d3 fun x G3 mx hC b3 Y=>?_};refine{_,rfl,_,rfl,_,_,rfl,rfl,_,rfl,_,rfl,_,rfl,p,lt,lb,lq,W,m,e,(by show [V.ref p,V.int (((e+1:Nat):Int)-1),V.ref W,V.ref lt,V.int m]=_;rw[hj]),by omega,Y.L,Y.T,m0,m1,fun l1 ge I G4 he h1 hH O1 t1 gq gl L4 k4=>{by show 4<=aB;omega,fun t ht=>?_}};have st:=aH ht (.tup [.str "pull",.str y,.str x,.ref l1]);have O:=(Y.kp k4 L4).same st;refine k _ (.pull y x I) _ (Ko ah my mx (Y.dm l1 he) (st _ _ h1) hH ((O1.base Y.dm).keepI (dX.same st))) t1 ?_ ?_ O.L O.k
  ·show I.deep+1<=e+1;omega
  ·show I.size+1<=1+6*ddz e;omega
 rintro _ G2 ⟨rfl,d2⟩;clear d1
 -- push
 refine vh (fun U G=>U=[some (.ref p),some (.int d),some (.ref W),some (.ref lt),some (.int m),some (.ref lb),some (.ref lq),some (.int pk),none,none,none]/\Dr H G p W lt lb lq bs qs) ?_ ?_
 rotate_left
 ·intro N g;refine iz {_,rfl,rfl,_,rfl,gH (fun c7=>?_) (fun _=>gu (g _ _ ⟨rfl,d2⟩))};refine{_,rfl,by show 0<=aB;omega,fun e0 hG=>?_};have u0:=aH hG (.lst []);have d3:=d2.same u0;refine{lq,e0,_,rfl,rfl,d3.T.hq,ah,_,rfl,gH (fun ne=>?_) (fun _=>g _ _ ⟨rfl,d3⟩)};have l0:=qU ne;rw[av]at l0;refine gk {_,rfl,_,rfl,_,rfl,lq,_,rfl,.inl (SqL.of d3.T.hq),p,_,rfl,d3.L.pu,by rw[av];omega,by rw[av];omega,fun r G4 r0 J hD b4=>?_};rw[av]at J;obtain⟨y,hy,my⟩:=kH r0 J;have Y:=d3.but b4 hD;refine{lq,_,_,_,rfl,rfl,SqL.of Y.T.hq,hy,?_};refine{_,rfl,_,rfl,_,rfl,p,lb,lq,1,rfl,by decide,hD,Y.T.hb,Y.T.hq,ha,hz,fun v F G5 hF dF hE b5=>{by show 3<=aB;omega,fun t ht=>?_}};have st:=aH ht (.tup [.str "push",.str y,v]);have O:=(Y.but b5 hE).same st;have fI:FmI bs qs G5 v F:={hF,by omega};exact k _ (.push y F) _ (Kl ah my (fI.keepI (dX.same st))) trivial (bV _) dz O.L O.k
 rintro _ G3 ⟨rfl,d3⟩;clear d2
 -- if
 refine vh (fun U G=>U=[some (.ref p),some (.int d),some (.ref W),some (.ref lt),some (.int m),some (.ref lb),some (.ref lq),some (.int pk),none,none,none]/\Dr H G p W lt lb lq bs qs) ?_ ?_
 rotate_left
 ·intro N g;refine iz {_,rfl,_,_,rfl,rfl,_,rfl,gH (fun c7=>?_) (fun _=>gu (g _ _ ⟨rfl,d3⟩))};refine{_,rfl,_,_,rfl,rfl,_,rfl,gH (fun cd=>?_) (fun _=>g _ _ ⟨rfl,d3⟩)};have cd:(d:Int)>0:=of_decide_eq_true cd;obtain⟨e,rfl⟩:∃e,d=e+1:={d-1,by omega};have hj:((e+1:Nat):Int)-1=(e:Int):=by omega
  have ev:[V.ref p,V.int (((e+1:Nat):Int)-1),V.ref W,V.ref lt,V.int m]=[V.ref p,.int e,.ref W,.ref lt,.int m]:=by rw[hj]
  refine cy (cZ {_,rfl,_,rfl,_,rfl,p,lb,lq,2,rfl,by decide,d3.L.pu,d3.T.hb,d3.T.hq,ha,hz,fun vf F G4 hF dF hD b4=>bK ?_});dsimp only;have Y:=d3.but b4 hD;have fI:FmI bs qs G4 vf F:={hF,by omega};refine cy (cZ {_,rfl,_,rfl,_,_,rfl,rfl,_,rfl,_,rfl,_,rfl,p,lt,lb,lq,W,m,e,ev,by omega,Y.L,Y.T,m0,m1,fun l1 ge I G5 he h1 hH O1 t1 gq gl L5 k5=>bK ?_});dsimp only;have O:=Y.kp k5 L5;refine gk {_,rfl,_,rfl,_,rfl,_,rfl,_,_,rfl,rfl,_,rfl,_,rfl,_,rfl,p,lt,lb,lq,W,m,e,ev,by omega,O.L,O.T,m0,m1,fun l2 fy hg G6 gd h2 gw O2 t2 fk fx L6 k6=>{by show 4<=aB;omega,fun t ht=>?_}};have st:=aH ht (.tup [.str "if",vf,.ref l1,.ref l2]);have gt:=k5.keepI Y.L.int;have hB:=k6.keepI O.L.int;have d6:=(O.kp k6 L6).same st;refine k _ (.ife F I hg) _ (Of ah (fI.keepI ((gt.trans hB).trans (dX.same st))) (Y.dm l1 he) (st _ _ (hB _ _ h1 O1.now.ni)) hH ((O1.base Y.dm).keepI (hB.trans (dX.same st))) (O.dm l2 gd) (st _ _ h2) gw ((O2.base O.dm).keepI (dX.same st))) ⟨t1,t2⟩ ?_ ?_ d6.L d6.k
  ·show max I.deep hg.deep+1<=e+1;omega
  ·show I.size+hg.size+1<=1+6*ddz e;omega
 rintro _ G4 ⟨rfl,Y⟩;clear d3
 -- end
 refine vh (fun U G=>U=[some (.ref p),some (.int d),some (.ref W),some (.ref lt),some (.int m),some (.ref lb),some (.ref lq),some (.int pk),none,none,none]/\Dr H G p W lt lb lq bs qs) ?_ ?_
 rotate_left
 ·intro N g;refine iz {_,rfl,rfl,_,rfl,gH (fun c7=>?_) (fun _=>gu (g _ _ ⟨rfl,Y⟩))};refine{_,rfl,p,4,rfl,Y.L.pu,by decide,by decide,fun r G5 r0 r4 hE b5=>{rfl,_,rfl,gH (fun _=>?_) (fun _=>g _ _ {rfl,Y.but b5 hE})}};refine gk {BR,fun t ht=>?_};have st:=aH ht (.tup [.str "end"]);have O:=(Y.but b5 hE).same st;exact k _ .fin _ (Oe ah) trivial (bV _) dz O.L O.k
 rintro _ G5 ⟨rfl,O⟩;exact gk {_,rfl,_,rfl,_,rfl,p,lt,lb,lq,m,rfl,O.L.pu,O.T,m0,m1,hn O}
theorem Kz{n kk:Nat}(hk:1<=kk)(D:Df K mg "_law_deeds" jv pLs f fd)(DE:Df K mg "_law_deed" lP pLd fE fdE)(GE:bC P w K mg base CX0 kk fE fdE pLd (spLd bs qs n))(DD:Df K mg "_law_draw" eJ pD fD fdD)(B:Bl mg) :
  bC P w K mg base CX0 (kk+1) f fd pLs (Ir bs qs n):=by
 have GD:bC P w K mg base CX0 1 fD fdD pD j5:=j9 DD;refine D.F.ok Oj (fun vs H Q E h=>?_) (fun dL A outer s H vs Q E hr h=>?_)
 ·obtain⟨p,lt,lb,lq,Z,m,d,rfl,_⟩:=h;rfl
 obtain⟨p,lt,lb,lq,Z,m,d,rfl,dn,L,T,m0,m1,k⟩:=h;have r1:cX 1 _:=hr.mono hk;refine{_,aj (bE (i:=5) Oj.nd rfl (Or.inl rfl) (eQ ai))
  (aj (jA cY rfl (jV (by rfl) B.range (iw (aM GD r1 (by rfl) DD.m DD.F.kp DD.b .nil bh (bf (pv 0) (dP au ai))) ai)) (dS (i:=6) Oj.nd rfl (Or.inl rfl)) (aD (cW (bN sj (bR dB (pv 2) au (fun _ _=>rfl)) au (bY _)) (aj (rF (cL jn (bR dB (pv 2) au (fun _ _=>rfl)) au) (yA (pv 2) au sI))
  (aD (eR (pz cD dI dJ iO (pv 5) (iw (aM GE hr (by rfl) DE.m DE.F.kp DE.b .nil bh (bf (pv 0) (bf (pv 1) (bf (pv 2) (bf (pv 3) (bf (pv 4) ai)))))) ai))))) cj)))
  (aD (bQ (pv 5)))),?_}
 have big:=eD;have mf:Z∈[p,Z]:=ag _ aC;refine cy (cZ {bV _,fun Y O=>bK ?_});have s0:=aH O (.lst []);dsimp only;have n0:Y∉[p,Z]:=fun z=>by
  obtain⟨i,r,e⟩:=L.int Y z;rw[O]at e
  cases e
 have hB:upd H Y (.lst []) Y≠none:=by
  rw[ah];intro z
  cases z
 refine cy {_,rfl,p,4,rfl,L.pu.same s0,by decide,by decide,fun r G r0 dG ea bG=>{r,rfl,by omega,by omega,?_}};have LG:=(L.same s0).but bG ea;have kG:Kp [p,Z] H G:=(Kp.same s0).trans (LG.kp' bG);have kB:Kp [p,Z] (upd H Y (.lst [])) G:=LG.kp' bG;have ed:G Y=some (.lst []):=bG _ _ ah (fun z=>n0 (by rw[z];exact aC));refine tO (n:=r.toNat) (fun i σ G'=>∃(v6:Option V),σ=[some (.ref p),some (.int d),some (.ref Z),some (.ref lt),some (.int m),some (.ref Y),v6]/\i<=3/\Gro bs qs m d (ddz d) (upd H Y (.lst [])) G' Y i/\Lf G' p Z/\Kp [p,Z] H G'/\Dm (upd H Y (.lst [])) G')
  {_,rfl,by decide,{[],.nil,ed,ay _,Kq,trivial,bV _,bV _},LG,kG,kB.dm LG.there} ?_ ?_
 ·rintro i σ G1 hi ⟨v6,rfl,i2,gr,g,k1,J⟩;obtain⟨c0,hc⟩:=g.hl;refine iz ?_;refine{_,rfl,Z,_,_,_,rfl,rfl,SqL.of hc,rfl,_,_,rfl,rfl,_,rfl,?_};refine gH (fun _=>?_) (fun _=>?_)
  ·refine cy (cZ {_,rfl,Z,_,_,_,rfl,rfl,SqL.of hc,rfl,_,_,rfl,rfl,_,rfl,Z,_,_,0,rfl,rfl,hc,rfl,?_});dsimp only;have W:Lf (upd G1 Z (.lst ([V.int c0].set 0 (.int (c0-1))))) p Z:={uo g.pu g.ne,c0-1,ah};have k2:Kp [p,Z] G1 (upd G1 Z (.lst ([V.int c0].set 0 (.int (c0-1))))):=Kp.upd mf;have I:=gr.keepI (k2.keepI g.int);have M:=J.trans (k2.dm W.there);have k2:=k1.trans k2;revert M I k2 W;generalize upd G1 Z (.lst ([V.int c0].set 0 (.int (c0-1))))=G2;intro W I M k2;obtain⟨xs,ds,h1,h2,h3,h4,h5,h6⟩:=I.ex;have T2:=T.keepI (k2.keepI L.int);refine{_,rfl,.inl {rfl,_,SqL.of h1},_,rfl,_,rfl,_,rfl,_,rfl,_,rfl,p,lt,lb,lq,Z,m,d,rfl,dn,W,T2,m0,m1,fun v dd G3 hO t dV ec L3 U=>?_};refine{Y,xs,v,rfl,rfl,U _ _ h1 n0,by omega,?_};refine{_,rfl,by omega,Gro.step n0 W U hB M h1 h2 h3 h4 h5 h6 hO t dV ec,L3.put n0,fun b o eb nb=>aT ((k2.trans U) b o eb nb) (aw eb O),fun a na=>?_}
   by_cases ca:a=Y
   ·rw[ca,ah]at na
    cases na
   ·rw[aL ca]at na;exact M a (U.dm L3.there a na)
  ·exact{_,rfl,by omega,gr.up,g,k1,J}
 ·rintro σ G1 ⟨v6,rfl,i2,gr,g,k1,J⟩;obtain⟨xs,ds,h1,h2,h3,h4,h5,h6⟩:=gr.ex;dsimp only;refine gk {_,rfl,k Y xs ds G1 O h1 (by omega) (h3.base (Dm.same s0)) h4 h5 ?_ g k1};have:r.toNat*ddz d<=3*ddz d:=EV _ i2;omega
theorem LW(D:Df K mg "_law_deeds" jv pLs f fd)(W:Df K mg "_law_deed" lP pLd fE fdE)(Z:Df K mg "_law_send" lO pSd fSe fdSe)(U:Df K mg "_law_formula" gY pFo fF fdF)(Y:Df K mg "_law_draw" eJ pD fD fdD)(V:Df K mg "_law_worth" fY pW fW fdW)(B:Bl mg):∀n:Nat,bC P w K mg base CX0 (5+2*n) f fd pLs (Ir bs qs n)
 |0=>{fun vs H Q E h=>by
   obtain⟨p,lt,lb,lq,O,m,d,_,h,_⟩:=h;omega,fun A outer s H args us vs Q E _ _ _ _ h=>by
   obtain⟨p,lt,lb,lq,O,m,d,_,h,_⟩:=h;omega}
 |n+1=>Kz (kk:=5+2*n+1) (by omega) D W (Ky (by omega) W D (LW D W Z U Y V B n) Z U Y V B) Y B
end
theorem MIn.but{m:Int}{H H' H1:Hp}{p:aa}{v:V}{M:MD}(Z:dE H p)(pu:dE H' p)(b:But p H' H1)(h:MIn m H H' v M):MIn m H H1 v M:=by
 obtain⟨t,e,h⟩:=h;exact{t,e,h.but Z pu b}
theorem MIn.old{m:Int}{B G:Hp}{a:aa}{o:HO}{v:V}{M:MD}(ol:B a≠none)(nt:∀xs,G a≠some (.tup xs))(h:MIn m B G v M):MIn m B (upd G a o) v M:=by
 obtain⟨t,e,⟨bl,ql,dl,hl,Y,hv,h1,h2,J,I,W,O,U,n1,n2,n3,Z⟩,kb,nb,nq,lb,lq,ld,lh,wb,hk⟩:=h;have ne:∀{b:aa},B b=none->b≠a:=fun n z=>ol (z ▸ n);have tk:∀(b:aa) (xs:List V),G b=some (.tup xs)->upd G a o b=some (.tup xs):=fun b xs e=>aT e fun z=>nt xs (z ▸ e);exact{t,e,{bl,ql,dl,hl,Y,hv,tk _ _ h1,aT h2 (ne n1),gU.tups tk J,aT I (ne n2),aT W (ne n3),aT O (ne Z),Paired.mono (fun _ _ z=>z.old ol nt) U,n1,n2,n3,Z},kb,nb,nq,lb,lq,ld,lh,wb,hk}
theorem zt{bs:List Str}{i:Nat}{x:V}(hi:(bs.map V.str)[i]?=some x):∃o,bs[i]?=some o/\x=.str o:=by
 rw[cC]at hi;obtain⟨o,ho,rfl⟩:=jL.mp hi;exact⟨o,ho,rfl⟩
section
variable{P:aK}{w:bD}{K:ae}{mg:Str->Option af}{base:cB}{f fD fW fN fS:aa}{fd fdD fdW fdN fdS:bU}
seal PS PSs PE PA PT PW PI PG PGs PC
abbrev nMs:List Str:=["_law_purse_here","_law_many","_law_found","_law_name_here","_law_boxes","_law_queues","_law_draws","_law_hears","_law_sign_here"]
abbrev pMs:List Str:=["_law_purse_here"]
theorem zu:bO nMs pMs (aN hW):={}
theorem ndMs:((["_law_k"]:List Str)++nMs).Nodup:=by decide +kernel
theorem ndMs2:((["_law_box"]:List Str)++nMs).Nodup:=by decide +kernel
inductive LX(vs:List V)(H:Hp)(Q:VK)(_e:XK):Prop where
 |mk(p:aa)(_:vs=[.ref p])(_:dE H p)(_:∀(ml:aa) (xs:List V) (Ms:List MD) (H':Hp),H' ml=some (.lst xs)->aJ (MIn Ms.length H H') xs Ms->0<Ms.length->Ms.length<=6->ml≠p->dE H' p->But p H H'->Q (.ref ml) H'):LX vs H Q _e
def spMs:Sp:=fun vs H Q Z=>LX vs H Q Z
theorem ok_ms(D:Df K mg "_law_machines" hW pMs f fd)(DN:Df K mg "_law_names" kA pN fN fdN)(nT:bC P w K mg base CX0 3 fN fdN pN DG)(DS:Df K mg "_law_deeds" jv pLs fS fdS)(js:∀bs qs,bC P w K mg base CX0 13 fS fdS pLs (Ir bs qs 4))(Y:Df K mg "_law_draw" eJ pD fD fdD)(DW:Df K mg "_law_worth" fY pW fW fdW)(B:Bl mg):bC P w K mg base CX0 14 f fd pMs spMs:=by
 have GD:bC P w K mg base CX0 1 fD fdD pD j5:=j9 Y;have GW:bC P w K mg base CX0 2 fW fdW pW vJ:=xa DW Y B;have GS:=bC.some (ι:=List Str×List Str) (sp:=fun q=>Ir q.1 q.2 4) (F:=fun q=>js q.1 q.2);refine D.F.ok zu (fun vs H Q E h=>?_) (fun hK A outer s H vs Q E hr h=>?_)
 ·obtain⟨p,rfl,_⟩:=h;rfl
 obtain⟨p,rfl,pu,k⟩:=h;have r1:cX 1 _:=hr.mono (by decide);have r2:cX 2 _:=hr.mono (by decide);have r3:cX 3 _:=hr.mono (by decide);have ke:cX 13 _:=hr;refine{_,aj (bE (i:=1) zu.nd rfl (Or.inl rfl) (cL gK au (aM GD r1 (by rfl) Y.m Y.F.kp Y.b .nil bh (bf (pv 0) (qI (bR dB (eQ (dP au (dP au ai))) (hV qM (by rfl) B.int boot_int (aq (oG fh (aM GD r1 (by rfl) Y.m Y.F.kp Y.b .nil bh (bf (pv 0) (dP au ai))) au (bY _)) ai)) (fun _ _=>rfl)) ai)))))
  (aj (bE (i:=2) zu.nd rfl (Or.inl rfl) (eQ ai))
  (aj (jA cY rfl (iM (aM nT r3 (by rfl) DN.m DN.F.kp DN.b .nil bh (bf (pv 0) (bf (pv 1) (dP au ai))))) (dS (i:=3) zu.nd rfl (Or.inl rfl)) (aj (bE (i:=4) zu.nd rfl (Or.inl rfl) (aM nT r3 (by rfl) DN.m DN.F.kp DN.b .nil bh (bf (pv 0) (iw (aM GD r1 (by rfl) Y.m Y.F.kp Y.b .nil bh (bf (pv 0) (dP au ai))) (dP au ai)))))
  (aj (bE (i:=5) zu.nd rfl (Or.inl rfl) (aM nT r3 (by rfl) DN.m DN.F.kp DN.b .nil bh (bf (pv 0) (iw (aM GD r1 (by rfl) Y.m Y.F.kp Y.b .nil bh (bf (pv 0) (dP au ai))) (dP au ai)))))
  (aj (yW (i:=6) ["_law_k"] (iH.open (NN:=nMs) (N:=nMs) (sc:=aN hW) rfl rfl (by decide +kernel) rfl (by decide +kernel) (by decide +kernel) rfl (by decide +kernel)) rfl zu.nd rfl (Or.inl rfl) (jV (by rfl) B.range (iw (aM GD r1 (by rfl) Y.m Y.F.kp Y.b .nil bh (bf (pv 0) (dP au ai))) ai)) (fun _ _ _ _=>dS (i:=0) ndMs rfl (Or.inl rfl)) (fun _ _ _ _=>kT) (fun _ _ _ _=>aM GD r1 (by rfl) Y.m Y.F.kp Y.b .nil bh (bf (pv 1) (dP au ai))))
  (aj (bE (i:=7) zu.nd rfl (Or.inl rfl) (eQ ai))
  (aj (jA cY rfl (iM (sE yN (eQ (dP cg (dP cg (dP cg ai)))) vm (vn (cL gK au (aM GD r1 (by rfl) Y.m Y.F.kp Y.b .nil bh (bf (pv 0) (dP au ai))))))) (dS (i:=8) zu.nd rfl (Or.inl rfl)) (aD (eR (pz cD dI dJ iO (pv 7) (zo (d9 (bf (pv 8) (iw (aM GS ke (by rfl) DS.m DS.F.kp DS.b .nil bh (bf (pv 0) (dP au (Oc (eQ (dP au ai)) (zo (d9 (bf (pv 4) (bf (pv 5) ai))) (bf (pv 1) ai)))))) ai))) ai) (hs:=AH)))))
  (aD (eR (pz cD dI dJ iO (pv 2) (zo (d9 (bf (pv 3) (aq (oO ["_law_box"] (iH.open (NN:=nMs) (N:=nMs) (sc:=aN hW) rfl rfl (by decide +kernel) rfl (by decide +kernel) (by decide +kernel) rfl (by decide +kernel)) rfl (iM (pv 4)) (fun _ _ _ _=>dS (i:=0) ndMs2 rfl (Or.inl rfl)) (fun _ _ _ _=>kT) (fun _ _ _ _=>d9 (bf (pv 0) (iw (aM GW r2 (by rfl) DW.m DW.F.kp DW.b .nil bh (bf (pv 1) ai)) ai)))) (bf (pv 5) (bf (pv 6) (bf (pv 7) ai)))))) ai) (hs:=AH))))))))))
  (aD (bQ (pv 2))))),?_}
 have big:=eD;refine cy (cZ {_,rfl,lt2,fun l0 mz=>?_});have s0:=aH mz (.lst [.int 4,.int 6]);refine{_,rfl,p,8,rfl,pu.same s0,by decide,by decide,fun r G r0 r8 U bG=>{rfl,.inr {_,rfl,l0,_,_,_,rfl,rfl,SqL.of (bG _ _ ah (q9 pu mz)),zr,?_}}};obtain⟨mm,em,iF⟩:∃m:Int,(if decide (V.int r=V.int 7)=true then V.int 6 else V.int 4)=.int m/\(0<m/\m<=6):=by
  by_cases c:V.int r=V.int 7
  ·rw[decide_eq_true c];exact{6,rfl,by decide}
  ·rw[decide_eq_false c];exact{4,rfl,by decide}
 rw[em];refine{p,mm,rfl,U,iF.1,by omega,fun x G1 x0 x1 nl b1=>{_,_,rfl,rfl,bK ?_}};obtain⟨m,hm,m0,m6⟩:∃m:Nat,1+x=(m:Int)/\0<m/\m<=6:={(1+x).toNat,by omega,by omega,by omega};dsimp only;rw[hm];have b1:But p H G1:=((But.same (But.refl p H) s0).trans bG).trans b1;clear bG U s0 mz;refine cy (cZ {bV _,fun fl my=>bK ?_});have sf:=aH my (.lst []);dsimp only;have pq:=nl.same sf;have b2:=b1.same sf;have pc:upd G1 fl (.lst []) fl=some (.lst []):=ah;have pp:fl≠p:=q9 nl my;have lp:H fl=none:=b1.dm nl fl my;revert pq b2 pc;generalize upd G1 fl (.lst [])=G2;intro pq b2 pc;have no:G2 fl≠none:=fun z=>by
  rw[pc]at z
  cases z
 refine cy {_,rfl,_,rfl,p,m,0,rfl,pq,by omega,by omega,fun ln ss G3 kB pw md nd lw b3=>{ln,rfl,{_,SqL.of pw},?_}};have kv:ln≠p:=tD lw pw;have jq:ln≠fl:=fun z=>no (z ▸ kB);refine jB (K:=K) (a:=ln) (xs:=ss.map V.str) (fun i σ G=>∃(u3 u4 u5 u6 u7 u8:Option V) (xs:List V) (Ms:List MD),σ=[some (.ref p),some (.int m),some (.ref fl),u3,u4,u5,u6,u7,u8]/\G ln=some (.lst (ss.map V.str))/\G fl=some (.lst xs)/\aJ (MIn m G2 G) xs Ms/\Ms.length=i/\dE G p/\Kp [p,fl] G2 G)
  {_,_,_,_,_,_,[],[],rfl,pw,b3 _ _ pc pp,.nil,rfl,lw,Kp.but b3 aC} ?_ ?_ ?_
 ·rintro i σ G _ ⟨_,_,_,_,_,_,_,_,rfl,h,_⟩;exact SqL.of h
 ·rintro i v σ G hi ⟨u3,u4,u5,u6,u7,u8,xs,Ms,rfl,hG,pk,pM,lM,U,kG⟩;obtain⟨nm,lc,rfl⟩:=zt hi;have il:=(aF.mp lc).1;refine bK ?_;dsimp only
  -- the boxes' names, the queues
  refine cy (cZ {_,rfl,_,rfl,p,4,rfl,U,by decide,by decide,fun r Ga r0 r4 pb ba=>?_});obtain⟨r,rfl⟩:∃n:Nat,r=(n:Int):={r.toNat,by omega};refine{p,r,0,rfl,pb,by omega,by omega,fun lb bs Gb hO oe hI hY mW bb=>bK ?_};dsimp only;have ky:But p G Gb:=ba.trans bb;have g:lb≠p:=tD mW oe;refine cy (cZ {_,rfl,_,rfl,p,3,rfl,mW,by decide,by decide,fun r' Gc hH hL mu bc=>?_});obtain⟨r',rfl⟩:∃n:Nat,r'=(n:Int):={r'.toNat,by omega};refine{p,r',8,rfl,mu,by omega,by omega,fun lq qs Gd kz rf hS io py bd=>bK ?_};dsimp only;have mn:But p G Gc:=ky.trans bc;have oD:But p G Gd:=mn.trans bd;have pj:lq≠p:=tD py rf;have ip:G lq=none:=mn.dm mu lq kz;have pr:=bd _ _ (bc _ _ oe g) g;clear ba bb bc bd pb mW mu
  -- the draws
  refine cy (cZ ?_);refine um (fun n G'=>n<4/\dE G' p/\But p Gd G') (fun R hR=>{_,rfl,p,4,rfl,py,by decide,by decide,fun x G' x0 x1 pu b=>by
    obtain⟨n,rfl⟩:∃n:Nat,x=(n:Int):={x.toNat,by omega};exact hR n G' {by omega,pu,b}}) (fun n G' h=>by have:=h.1;omega) (fun n _ i ys G'=>∃ds:List Int,ys=ds.map V.int/\ds.length=i/\dE G' p/\But p Gd G') (fun n G' h=>{[],rfl,rfl,h.2.1,h.2.2}) ?_ ?_ ?_
  ·rintro n G0 h i ys G' hi ⟨ds,rfl,h1,_⟩;rw[av];have:=h.1;omega
  ·rintro n G0 h i ys G' hi ⟨ds,rfl,h1,pu,b⟩;refine{rfl,?_};unfold xu;refine iA ?_;refine{_,rfl,p,100,rfl,pu,by decide,by decide,fun x Ga x0 x1 pb ba=>?_};exact{ds++[x],by rw[cu];rfl,by rw[ax,h1];rfl,pb,b.trans ba}
  rintro n G0 hn ys Ge ⟨ds,rfl,hN,qb,be⟩ dl hdl;have ld:ds.length<=100:=by have:=hn.1;omega
  have rb:=aH hdl (.lst (ds.map V.int));refine bK ?_;dsimp only;have hX:G dl=none:=oD.dm py dl (be.dm qb dl hdl);have lv:dl≠p:=q9 qb hdl
  -- what it hears
  refine cy (cZ {bV _,fun hl J=>bK ?_});have nz:=aH J (.lst []);have sD:=rb.trans nz;dsimp only;have ml:G hl=none:=oD.dm py hl (be.dm qb hl (none_of rb J));have pR:=qb.same sD;have bF:But p G (upd (upd Ge dl (.lst (ds.map V.int))) hl (.lst [])):=(oD.trans be).same sD;have rg:=sD _ _ (be _ _ pr g);have rc:=sD _ _ (be _ _ rf pj);have ph:=nz _ _ (kN hdl (.lst (ds.map V.int)));have O:=kN J (.lst []);have pA:hl≠p:=q9 (qb.same rb) J;have nh:lb≠hl/\lq≠hl/\dl≠hl:={aw (rb _ _ (be _ _ pr g)) J,aw (rb _ _ (be _ _ rf pj)) J,aw (kN hdl _) J};revert pR bF rg rc ph O;clear sD nz rb hdl J be qb pr rf oD py hn;generalize upd (upd Ge dl (.lst (ds.map V.int))) hl (.lst [])=GF;intro pR bF rg rc ph O;have mq:GF hl≠none:=fun z=>by
   rw[O]at z
   cases z
  -- its signs
  refine cy {by show 3<=aB;omega,fun l3 mx=>?_};have s3:=aH mx (.lst [.str "go",.str "on",.str "stop"]);refine{_,rfl,p,3,rfl,pR.same s3,by decide,by decide,fun r Gg r0 r3 nc bg=>{_,_,rfl,rfl,_,rfl,l3,_,rfl,SqL.of (bg _ _ ah (q9 pR mx)),fun sl pm=>?_}};obtain⟨zs,lz,eq⟩:∃zs:List Str,zs.length<=3/\pG [V.str "go",.str "on",.str "stop"] none (some (1+r))=zs.map V.str:=by
   have cs:r=0\/r=1\/r=2:=by omega
   rcases cs with rfl|rfl|rfl
   ·exact{["go"],by decide,rfl}
   ·exact{["go","on"],by decide,rfl}
   ·exact{["go","on","stop"],by decide,rfl}
  rw[eq];have pa:=aH pm (.lst (zs.map V.str));have oL:=((But.refl p GF).same s3).trans bg;have kh:sl≠p:=q9 nc pm;have la:sl≠hl:=(aw (oL _ _ O pA) pm).symm;have na:=nc.same pa;have kI:Kp [p,hl] GF (upd Gg sl (.lst (zs.map V.str))):=(Kp.but (oL) aC).trans (Kp.same pa);have pi:=pa _ _ (oL _ _ O pA);have ri:=kN pm (.lst (zs.map V.str));revert na kI pi ri;clear pa pm eq oL bg nc s3 mx;generalize upd Gg sl (.lst (zs.map V.str))=GI;intro na kI pi ri;have ra:∀{a:aa},a≠p->a≠hl->a∉[p,hl]:=fun n1 n2 z=>by
   simp only[ar,aV,or_false]at z;exact z.elim n1 n2
  have kt:∀{G':Hp},dE G' p->(∃o,G' hl=some o)->∀a∈[p,hl],∃o,G' a=some o:=fun pu h a z=>by
   simp only[ar,aV,or_false]at z
   rcases z with rfl|rfl
   ·obtain⟨x,y,e⟩:=pu;exact{_,e}
   ·exact h
  refine{sl,rfl,{_,SqL.of ri},?_};refine jB (K:=K) (a:=sl) (xs:=zs.map V.str) (fun j σ G'=>∃(u8:Option V) (hv:List V) (hs:List (Str×Ds)),σ=[some (.ref p),some (.int m),some (.ref fl),some (.str nm),some (.ref lb),some (.ref lq),some (.ref dl),some (.ref hl),u8]/\G' sl=some (.lst (zs.map V.str))/\G' hl=some (.lst hv)/\aJ (HsO bs qs GF G') hv hs/\hs.length=j/\(∀q∈hs,q.2.toOk m/\q.2.deep<=4/\q.2.size<=3*ddz 4)/\dE G' p/\Kp [p,hl] GF G')
   {_,[],[],rfl,ri,pi,.nil,rfl,(fun q hq=>by cases hq),na,kI} ?_ ?_ ?_
  ·rintro j σ G' _ ⟨_,_,_,rfl,h,_⟩;exact SqL.of h
  ·rintro j v σ G' hj ⟨u8,hv,hs,rfl,ov,I,pe,mv,mt,Z,W⟩;obtain⟨sg,ka,rfl⟩:=zt hj;have jl:=(aF.mp ka).1;have hP:=aO pe;have ow:Dm GF G':=W.dm (kt Z {_,I});refine bK ?_;dsimp only;refine{_,rfl,.inl {rfl,_,SqL.of I},_,rfl,_,rfl,BR,fun lf lx=>{_,rfl,_,rfl,lt2,fun lt im=>{_,rfl,?_}}};have ix:=aH lx (.lst [.int 12]);have lA:=aH im (.tup [.ref lb,.ref lq]);have s2:=ix.trans lA;have L:Lf (upd (upd G' lf (.lst [.int 12])) lt (.tup [.ref lb,.ref lq])) p lf:={Z.same s2,12,lA _ _ ah};have T:Th (upd (upd G' lf (.lst [.int 12])) lt (.tup [.ref lb,.ref lq])) lt lb lq bs qs:={ah,s2 _ _ (W _ _ rg (ra g nh.1)),s2 _ _ (W _ _ rc (ra pj nh.2.1)),by omega,by omega};refine{(bs,qs),p,lt,lb,lq,lf,m,3,rfl,by decide,L,T,by omega,by omega,fun l ys dd Gk ih h1 hT O1 t1 kw kn Lk kk=>{lt2,fun t ht=>?_}};have st:=aH ht (.tup [.str sg,.ref l])
   -- all but the purse stays
   have kp:Kp [p] G' Gk:=fun b o e nb=>kk _ _ (s2 _ _ e) fun z=>by
    simp only[ar,aV,or_false]at z
    rcases z with z|z
    ·exact nb (by simp[z])
    ·rw[z,lx]at e
     cases e
   have ki:dX G' Gk:=kp.keepI fun a ha=>by
    obtain⟨x,y,e⟩:=Z;rw[aA.mp ha];exact{x,_,e}
   have mb:=kp _ _ I (by simpa using pA);have oi:=st _ _ mb;refine{hl,hv,.ref t,rfl,rfl,oi,by omega,?_};have ly:∀ys,upd Gk t (.tup [.str sg,.ref l]) hl≠some (.tup ys):=fun ys z=>by
    rw[oi]at z
    cases z
   have qt:Dm G' (upd (upd G' lf (.lst [.int 12])) lt (.tup [.ref lb,.ref lq])):=Dm.same s2;have new:HsO bs qs GF (upd Gk t (.tup [.str sg,.ref l])) (.ref t) (sg,dd):={t,l,ys,rfl,ah,ow l (qt l ih),st _ _ h1,by omega,(O1.base (ow.trans qt)).keepI (dX.same st)};refine{_,hv++[.ref t],hs++[(sg,dd)],rfl,aT (st _ _ (kp _ _ ov (by simpa using kh))) la,ah,?_,by rw[ax,mv];rfl,fun q hq=>?_,uo (Lk.pu.same st) pA,fun b o' e nb=>?_}
   ·exact eN (Paired.mono (fun v q z=>(z.keepI (ki.trans (dX.same st))).old mq ly) pe) (new.old mq ly)
   ·rcases bM.mp hq with z|z
    ·exact mt q z
    ·rw[aA.mp z];exact{t1,dA kw (by decide),dA kn (by decide)}
   ·have ii:b≠hl:=fun z=>nb (by simp[z]);rw[aL ii];exact st _ _ (kp _ _ (W _ _ e nb) fun z=>nb (by simp only[aA]at z;simp[z]))
  ·rintro σ G' ⟨u8,hv,hs,rfl,ov,I,pe,mv,mt,Z,W⟩;dsimp only;rw[av]at mv;have nf:But p G G':=fun b o e nb=>W _ _ (bF _ _ e nb) (ra nb (aw e ml));have lR:=nf _ _ pk pp;have px:=W _ _ rg (ra g nh.1);have hQ:=aO pM;rw[md]at il;refine{_,rfl,.inl {rfl,_,SqL.of lR},_,rfl,?_};refine w8 (K:=K) (a:=lb) (xs:=bs.map V.str) (fun R h=>{_,rfl,h}) (SqL.of px) (fun j ys Gx=>∃ps:List (Str×Int),gU Gx ps ys/\ps.map (·.1)=bs.take j/\(∀q∈ps,Wo q.2)/\dE Gx p/\But p G' Gx) {[],.nil,rfl,(fun q hq=>by cases hq),Z,But.refl _ _} ?_ ?_ ?_
   ·rintro j ys Gx hj ⟨ps,h5,h6,h7,h8,h9⟩;have l5:=h5.length;have l6:=congrArg iW h6;rw[av,cM]at l6;exact{SqL.of (h9 _ _ px g),by omega}
   ·rintro j v ys Gx hj ⟨ps,h5,h6,h7,h8,h9⟩;obtain⟨o,ho,rfl⟩:=zt hj;refine{rfl,?_};unfold xu;refine iA ?_;refine{_,rfl,_,rfl,p,rfl,h8,fun x Gy x0 x1 kc mf=>{lt2,fun t ht=>?_}};have st:=aH ht (.tup [.str o,.int x]);refine{ps++[(o,x)],?_,?_,fun q hq=>?_,kc.same st,(h9.trans mf).same st}
    ·unfold gU;rw[cu];exact eN (gU.tups (fun t xs e=>st _ _ (dX.but h8 mf _ _ e (nA xs))) h5) ⟨t,rfl,ah⟩
    ·rw[cu,h6,fZ,ho];rfl
    ·rcases bM.mp hq with z|z
     ·exact h7 q z
     ·rw[aA.mp z];exact⟨x0,x1⟩
   rintro vb Gx ⟨ps,ls,kb,wb,mr,bx⟩ bl mc;rw[av,eg]at kb;have iv:=aH mc (.lst vb);refine{_,rfl,_,rfl,_,rfl,by show 5<=aB;omega,fun t ht=>?_};have st:=aH ht (.tup [.str nm,.ref bl,.ref lq,.ref dl,.ref hl]);have sZ:=iv.trans st;have bz:=bx.same sZ;have oT:=nf.trans bz;have lr:=(dX.but Z bx).trans (dX.same sZ);have lk:G bl=none:=nf.dm Z bl (bx.dm mr bl mc);have jp:Dm G GF:=bF.dm pR;have lj:Mch m G (upd (upd Gx bl (.lst vb)) t (.tup [.str nm,.ref bl,.ref lq,.ref dl,.ref hl])) t nm bs qs ds hs ps:={{bl,lq,dl,hl,vb,hv,ah,st _ _ ah,gU.same sZ ls,bz _ _ (W _ _ rc (ra pj nh.2.1)) pj,bz _ _ (W _ _ ph (ra lv nh.2.2)) lv,bz _ _ I pA,Paired.mono (fun v q z=>(z.keepI lr).base jp) pe,lk,ip,hX,ml},kb,hY,io,by omega,by omega,ld,by omega,wb,mt};have oc:=oT _ _ pk pp;have lF:∀ys,upd (upd Gx bl (.lst vb)) t (.tup [.str nm,.ref bl,.ref lq,.ref dl,.ref hl]) fl≠some (.tup ys):=fun ys z=>by
    rw[oc]at z
    cases z
   have qt:Dm G2 G:=kG.dm fun a z=>by
    simp only[ar,aV,or_false]at z
    rcases z with rfl|rfl
    ·obtain⟨x,y,e⟩:=U;exact{_,e}
    ·exact{_,pk}
   refine{fl,xs,.ref t,rfl,rfl,oc,by omega,?_};refine{_,_,_,_,_,_,xs++[.ref t],Ms++[⟨nm,bs,qs,ds,hs,ps⟩],rfl,aT (oT _ _ hG kv) jq,ah,?_,by rw[ax,lM];rfl,uo (mr.same sZ) pp,fun b o e nb=>?_}
   ·exact eN (Paired.mono (fun v M z=>(z.but pq U oT).old no lF) pM) (MIn.old no lF {t,rfl,lj.base qt})
   ·have n1:b≠fl:=fun z=>nb (by simp[z]);have n2:b≠p:=fun z=>nb (by simp[z]);rw[aL n1];exact oT _ _ (kG _ _ e nb) n2
 ·rintro σ G ⟨u3,u4,u5,u6,u7,u8,xs,Ms,rfl,hG,pk,pM,lM,U,kG⟩;dsimp only;rw[av,md]at lM;have bH:But p H G:=fun b o e nb=>kG _ _ (b2 _ _ e nb) fun z=>by
   simp only[ar,aV,or_false]at z;exact z.elim nb (aw e lp)
  have qt:Dm H G2:=b2.dm pq;exact gk {_,rfl,k fl xs Ms G pk (by rw[lM];exact Paired.mono (fun v M ⟨t,e,z⟩=>{t,e,z.base qt}) pM) (by omega) (by omega) pp U bH}
end
theorem KA{r:Int}(h0:0<=r)(h1:r<4):∃x:Str,atI [V.str "go",.str "on",.str "stop",.str "odd"] r=some (.str x):=by
 obtain⟨x,hx,_⟩:=kH (bs:=["go","on","stop","odd"]) h0 h1;exact⟨x,hx⟩
section
variable{P:aK}{w:bD}{K:ae}{mg:Str->Option af}{base:cB}{f fD fW fSg:aa}{fd fdD fdW fdSg:bU}
seal PS PSs PE PA PT PW PI PG PGs PC
abbrev nSg:List Str:=["_law_purse_here","_law_many","_law_time","_law_rank","_law_to","_law_sign_here"]
abbrev pSg:List Str:=["_law_purse_here","_law_many"]
theorem Iu:bO nSg pSg (aN lQ):={}
inductive LY(vs:List V)(H:Hp)(Q:VK)(_e:XK):Prop where
 |mk(p:aa)(m:Nat)(_:vs=[.ref p,.int m])(_:dE H p)(_:0<m)(_:m<1000)(_:∀(v:V) (e:Ev) (H':Hp),pO H' v e->q8 m e->dE H' p->But p H H'->Q v H'):LY vs H Q _e
def Ol:Sp:=fun vs H Q Z=>LY vs H Q Z
theorem LZ(D:Df K mg "_law_sign" lQ pSg f fd)(Z:Df K mg "_law_draw" eJ pD fD fdD)(W:Df K mg "_law_worth" fY pW fW fdW)(B:Bl mg):bC P w K mg base CX0 3 f fd pSg Ol:=by
 have O:bC P w K mg base CX0 1 fD fdD pD j5:=j9 Z;have GW:bC P w K mg base CX0 2 fW fdW pW vJ:=xa W Z B;refine D.F.ok Iu (fun vs H Q E h=>?_) (fun ea A outer s H vs Q E hr h=>?_)
 ·obtain⟨p,m,rfl,_⟩:=h;rfl
 obtain⟨p,m,rfl,pu,m0,m1,k⟩:=h;have r1:cX 1 _:=hr.mono (by decide);have r2:cX 2 _:=hr;refine{_,aj (bE (i:=2) Iu.nd rfl (Or.inl rfl) (aM O r1 (by rfl) Z.m Z.F.kp Z.b .nil bh (bf (pv 0) (qI (bR dB (eQ (dP au (oA (cL gK (cL rJ au au) au) ai))) (hV qM (by rfl) B.int boot_int (aq (oG fh (aM O r1 (by rfl) Z.m Z.F.kp Z.b .nil bh (bf (pv 0) (dP au ai))) au (bY _)) ai)) (fun _ _=>rfl)) ai))))
  (aj (bE (i:=3) Iu.nd rfl (Or.inl rfl) (aM O r1 (by rfl) Z.m Z.F.kp Z.b .nil bh (bf (pv 0) (dP au ai))))
  (aj (bE (i:=4) Iu.nd rfl (Or.inl rfl) (aM O r1 (by rfl) Z.m Z.F.kp Z.b .nil bh (bf (pv 0) (bf (pv 1) ai))))
  (aj (bE (i:=5) Iu.nd rfl (Or.inl rfl) (bR dB (eQ (dP cg (dP cg (dP cg (dP cg ai))))) (aM O r1 (by rfl) Z.m Z.F.kp Z.b .nil bh (bf (pv 0) (dP au ai))) (fun _ _=>rfl)))
  (aD (bQ (d9 (bf (pv 2) (bf (pv 3) (bf (pv 4) (bf (pv 5) (iw (aM GW r2 (by rfl) W.m W.F.kp W.b .nil bh (bf (pv 0) ai)) (iw (aM GW r2 (by rfl) W.m W.F.kp W.b .nil bh (bf (pv 0) ai)) ai)))))))))))),?_}
 have big:=eD;have c6:Ef 10 6:={by decide,by decide,by decide};refine cy (cZ {_,rfl,_,_,rfl,rfl,c6,_,_,rfl,rfl,lt2,fun l0 Y=>?_});have s0:=aH Y (.lst [.int 12,.int ((10:Int)^(6:Int).toNat+1)]);refine{_,rfl,p,8,rfl,pu.same s0,by decide,by decide,fun r G r0 r8 U bG=>{rfl,.inr {_,rfl,l0,_,_,_,rfl,rfl,SqL.of (bG _ _ ah (q9 pu Y)),zr,?_}}};obtain⟨mm,em,z⟩:∃m:Int,(if decide (V.int r=V.int 7)=true then V.int ((10:Int)^(6:Int).toNat+1) else V.int 12)=.int m/\(0<m/\m<=1000001):=by
  by_cases c:V.int r=V.int 7
  ·rw[decide_eq_true c];exact{_,rfl,by decide}
  ·rw[decide_eq_false c];exact{12,rfl,by decide}
 refine tj ?_;show j5 [V.ref p,(if decide (V.int r=V.int 7)=true then V.int ((10:Int)^(6:Int).toNat+1) else V.int 12)] _ _ _;rw[em];refine{p,mm,rfl,U,z.1,by omega,fun I G1 dV dG ee b1=>bK ?_};have b1:But p H G1:=((But.same (But.refl p H) s0).trans bG).trans b1;clear bG U s0 Y;dsimp only;refine cy (cZ {_,rfl,p,10,rfl,ee,by decide,by decide,fun rk G2 dz dL ef b2=>bK ?_});dsimp only;refine cy (cZ {_,rfl,_,rfl,p,m,rfl,ef,by omega,by omega,fun to G3 to0 to1 M b3=>bK ?_});dsimp only;refine cy (cZ {by show 4<=aB;omega,fun l3 J=>?_});have s3:=aH J (.lst [.str "go",.str "on",.str "stop",.str "odd"]);refine{_,rfl,p,4,rfl,M.same s3,by decide,by decide,fun x G4 x0 x4 ec b4=>?_};obtain⟨sg,ed⟩:=KA x0 x4;refine{l3,_,_,_,rfl,rfl,SqL.of (b4 _ _ ah (q9 M J)),ed,bK ?_};dsimp only;refine gk {_,rfl,_,rfl,_,rfl,_,rfl,_,rfl,p,rfl,ec,fun va G5 a0 a1 g b5=>{_,rfl,p,rfl,g,fun vb G6 c0 c1 eb b6=>{by show 6<=aB;omega,fun t ht=>?_}}};have st:=aH ht (.tup [.int I,.int rk,.int to,.str sg,.int va,.int vb]);exact k _ {I,rk,0,0,to,sg,va,vb} _ ⟨t,rfl,ah⟩ {to0,to1,uq {by show -1000000<=I;omega,by show I<=1000000;omega},⟨a0,a1⟩,⟨c0,c1⟩} (eb.same st) (((((((b1.trans b2).trans b3).same s3).trans b4).trans b5).trans b6).same st)
abbrev nSs:List Str:=["_law_purse_here","_law_many"]
abbrev pSs:List Str:=["_law_purse_here","_law_many"]
theorem scSs:bO nSs pSs (aN kC):={}
theorem ndSs:((["_law_k"]:List Str)++nSs).Nodup:=by decide +kernel
inductive L0(vs:List V)(H:Hp)(Q:VK)(_e:XK):Prop where
 |mk(p:aa)(m:Nat)(_:vs=[.ref p,.int m])(_:dE H p)(_:0<m)(_:m<1000)(_:∀(l:aa) (svs:List V) (es:List Ev) (H':Hp),H' l=some (.lst svs)->aJ (pO H') svs es->es.length<60->(∀e∈es,q8 m e)->l≠p->dE H' p->But p H H'->Q (.ref l) H'):L0 vs H Q _e
def spSs:Sp:=fun vs H Q Z=>L0 vs H Q Z
theorem ok_ss(D:Df K mg "_law_signs" kC pSs f fd)(Y:Df K mg "_law_sign" lQ pSg fSg fdSg)(W:Df K mg "_law_draw" eJ pD fD fdD)(DW:Df K mg "_law_worth" fY pW fW fdW)(B:Bl mg):bC P w K mg base CX0 4 f fd pSs spSs:=by
 have GD:bC P w K mg base CX0 1 fD fdD pD j5:=j9 W;have cd:bC P w K mg base CX0 3 fSg fdSg pSg Ol:=LZ Y W DW B;refine D.F.ok scSs (fun vs H Q E h=>?_) (fun ca A outer s H vs Q E hr h=>?_)
 ·obtain⟨p,m,rfl,_⟩:=h;rfl
 obtain⟨p,m,rfl,pu,m0,m1,k⟩:=h;have r1:cX 1 _:=hr.mono (by decide);have r3:cX 3 _:=hr;refine{_,aD (bQ (oO ["_law_k"] (iH.open (NN:=nSs) (N:=nSs) (sc:=aN kC) rfl rfl (by decide +kernel) rfl (by decide +kernel) (by decide +kernel) rfl (by decide +kernel)) rfl (jV (by rfl) B.range (iw (aM GD r1 (by rfl) W.m W.F.kp W.b .nil bh (bf (pv 0) (qI (bR dB (eQ (dP au (dP au ai))) (hV qM (by rfl) B.int boot_int (aq (oG fh (aM GD r1 (by rfl) W.m W.F.kp W.b .nil bh (bf (pv 0) (dP au ai))) au (bY _)) ai)) (fun _ _=>rfl)) ai))) ai)) (fun _ _ _ _=>dS (i:=0) ndSs rfl (Or.inl rfl)) (fun _ _ _ _=>kT) (fun _ _ _ _=>aM cd r3 (by rfl) Y.m Y.F.kp Y.b .nil bh (bf (pv 1) (bf (pv 2) ai))))),?_};have big:=eD;refine gk ?_;refine um (fun n G=>n<20/\dE G p/\But p H G) (fun R hR=>{_,rfl,lt2,fun l0 M=>?_}) (fun n G h=>by have:=h.1;omega) (fun n _ i ys G=>∃es:List Ev,aJ (pO G) ys es/\es.length=i/\(∀e∈es,q8 m e)/\dE G p/\But p H G) (fun n G h=>{[],.nil,rfl,(fun e he=>by cases he),h.2.1,h.2.2}) ?_ ?_ ?_
 ·have s0:=aH M (.lst [.int 6,.int 20]);refine{_,rfl,p,6,rfl,pu.same s0,by decide,by decide,fun r G r0 r8 Z O=>{rfl,.inr {_,rfl,l0,_,_,_,rfl,rfl,SqL.of (O _ _ ah (q9 pu M)),zr,?_}}};obtain⟨mm,em,g⟩:∃m:Int,(if decide (V.int r=V.int 5)=true then V.int 20 else V.int 6)=.int m/\(0<m/\m<=20):=by
   by_cases c:V.int r=V.int 5
   ·rw[decide_eq_true c];exact{20,rfl,by decide}
   ·rw[decide_eq_false c];exact{6,rfl,by decide}
  rw[em];refine{p,mm,rfl,Z,g.1,by omega,fun x G1 x0 x1 U J=>?_};obtain⟨n,rfl⟩:∃n:Nat,x=(n:Int):={x.toNat,by omega};exact hR n G1 {by omega,U,((But.same (But.refl p H) s0).trans O).trans J}
 ·rintro n G0 h i ys G hi ⟨es,h1,h2,_⟩;have:=h.1;have:=aO h1;omega
 ·rintro n G0 h i ys G hi ⟨es,h1,h2,I,Z,O⟩;refine{rfl,?_};unfold xu;refine iA ?_;refine{_,rfl,_,rfl,p,m,rfl,Z,m0,m1,fun v e G1 hv he U J=>{es++[e],eN (Paired.mono (fun v e ⟨t,e',h⟩=>{t,e',dX.but Z J _ _ h (nA _)}) h1) hv,by rw[ax,h2];rfl,fun e' h'=>?_,U,O.trans J}}
  rcases bM.mp h' with z|z
  ·exact I e' z
  ·rw[aA.mp z];exact he
 ·rintro n G0 h ys G ⟨es,h1,h2,I,Z,O⟩ l hl;have st:=aH hl (.lst ys);exact k l ys es _ ah (Paired.mono (fun _ _ z=>z.same st) h1) (by have:=h.1;omega) I (q9 Z hl) (Z.same st) (O.same st)
end
end My
namespace L2
open PySem PySem.Spec PyProof.Rows
section
variable{prog:aK}{w:bD}{A:bX}{E:af->ak->Prop}{s:ak}
end
section
variable{X:Cx}
end
end L2
namespace My
open PySem L2
section
variable{Ms:List MD}{r:RS}
theorem o4(Ms:List MD)(r:RS):∀(i d:Nat),∃t,(itR Ms r (i+d)).2=(itR Ms r i).2++t
 |i,0=>{[],by rw[cq];rfl}
 |i,d+1=>by
  obtain⟨t,e⟩:=o4 Ms r i d;refine{t++(d8 Ms (itR Ms r (i+d)).1).2,?_};show (itR Ms r (i+d)).2++(d8 Ms (itR Ms r (i+d)).1).2=_;rw[e,g9]
theorem EW{Z:Int}(mo:lW Ms):∀{i:Nat},(∀j,j<i->ROk Ms.length (itR Ms r j).1/\gz (itR Ms r j).1 (Z-(itR Ms r j).2.length)=none)->(∀j,j<i->(itR Ms r j).2.length=j)/\(itR Ms r i).2.length<=i
 |0,_=>{fun j Y=>absurd Y (gD _),ay _}
 |i+1,h=>by
  obtain⟨h2,J⟩:=EW (i:=i) mo fun j Y=>h j (by omega);have U:=eZ (h i (by omega)).2;have M:=(h i (by omega)).1;obtain⟨_,s2⟩:=tu (jk mo M U.2.1);have li:(itR Ms r i).2.length=i:=by
   cases i with
   |zero=>rfl
   |succ i=>
    -- the turn ahead of it told a record, else it would be over
    have e:(itR Ms r (i+1)).2=(itR Ms r i).2++(d8 Ms (itR Ms r i).1).2:=rfl;have O:=eZ (h i (by omega)).2;obtain⟨_,W⟩:=tu (jk mo (h i (by omega)).1 O.2.1)
    rcases W with⟨q,eq⟩|⟨_,sp,V⟩
    ·rw[e,eq,ax,h2 i (by omega)];rfl
    ·have:(itR Ms r (i+1)).1.sp=some sp:=V;rw[U.1]at this
     cases this
  refine{fun j Y=>?_,?_}
  ·rcases jf j i with z|z
   ·exact h2 j z
   ·have:j=i:=by omega
    rw[this];exact li
  ·have e:(itR Ms r (i+1)).2=(itR Ms r i).2++(d8 Ms (itR Ms r i).1).2:=rfl;rw[e,ax,li]
   rcases s2 with⟨q,eq⟩|⟨eq,_⟩
   ·rw[eq];exact ay _
   ·rw[eq];exact gs _
theorem oB{Z:Int}{i:Nat}{e:End}(mo:lW Ms)(s:jg Ms r Z i e)(m0:0<=Z):((itR Ms r i).2.length:Int)<=Z:=by
 cases i with
 |zero=>
  show ((0:Nat):Int)<=Z;omega
 |succ i=>
  obtain⟨h1,h2⟩:=EW mo s.1;have d:=eZ (s.1 i (by omega)).2;have:=h1 i (by omega);omega
theorem lX{r:RS}{a b:Int}(h:gz r a=none)(l:a<=b):gz r b=none:=by
 obtain⟨h1,h2,Z⟩:=eZ h;unfold gz;rw[h1];dsimp only;rw[if_neg,if_neg (by omega)];intro z;exact h2 (pF.mp z)
end
theorem mU(Ms:List MD)(r:RS)(i:Nat):∀j:Nat,itR Ms r (i+j)=((itR Ms (itR Ms r i).1 j).1,(itR Ms r i).2++(itR Ms (itR Ms r i).1 j).2)
 |0=>by
  show itR Ms r i=((itR Ms r i).1,(itR Ms r i).2++[]);rw[cq]
 |j+1=>by
  show ((d8 Ms (itR Ms r (i+j)).1).1,(itR Ms r (i+j)).2++(d8 Ms (itR Ms r (i+j)).1).2)=_;rw[mU Ms r i j];show _=((d8 Ms (itR Ms (itR Ms r i).1 j).1).1,(itR Ms r i).2++((itR Ms (itR Ms r i).1 j).2++(d8 Ms (itR Ms (itR Ms r i).1 j).1).2));rw[g9]
structure Mrk(Ms:List MD)(es:List Ev)(n:Nat)(r:RS):Prop where
 e:r=(itR Ms (cI Ms es) n).1
 l:∀j,j<=n->(itR Ms (cI Ms es) j).2.length=j
 d:∀j,j<n->ROk Ms.length (itR Ms (cI Ms es) j).1/\gz (itR Ms (cI Ms es) j).1 1=none
theorem zv{r:RS}{k:Int}(h:gz r k=none):gz r 1=none:=by
 obtain⟨h1,h2,Z⟩:=eZ h;unfold gz;rw[h1];dsimp only;rw[if_neg (fun z=>h2 (pF.mp z)),if_neg (by decide)]
theorem mrk_0(Ms:List MD)(es:List Ev):Mrk Ms es 0 (cI Ms es):={rfl,fun j Z=>by
 have:j=0:=by omega
 subst this;rfl,fun j Z=>absurd Z (gD _)}
section
variable{Ms:List MD}{es:List Ev}{n i:Nat}{r:RS}{k:Int}{e:End}
theorem Mrk.full(mo:lW Ms)(m:Mrk Ms es n r)(s:jg Ms r k i e)(l:((itR Ms r i).2.length:Int)=k):Mrk Ms es (n+i) (itR Ms r i).1/\(i:Int)=k:=by
 obtain⟨Z,V⟩:=EW mo s.1;have ik:(i:Int)=k:=by
  cases i with
  |zero=>exact l
  |succ i=>
   have d:=(eZ (s.1 i (by omega)).2).2.2;rw[Z i (by omega)]at d;omega
 have W:=m.e;subst W;have add:=mU Ms (cI Ms es) n;refine{{by rw[add i],fun j Y=>?_,fun j Y=>?_},ik}
 ·by_cases c:j<=n
  ·exact m.l j c
  ·obtain⟨d,rfl⟩:∃d,j=n+d:={j-n,by omega};rw[add d];show ((itR Ms (cI Ms es) n).2++_).length=n+d;rw[ax,m.l n (ay _)]
   by_cases c2:d<i
   ·rw[Z d c2]
   ·have:d=i:=by omega
    rw[this];omega
 ·by_cases c:j<n
  ·exact m.d j c
  ·obtain⟨d,rfl⟩:∃d,j=n+d:={j-n,by omega};rw[add d];have q:=s.1 d (by omega);exact{q.1,zv q.2}
theorem Mrk.on(m:Mrk Ms es n r)(s:jg Ms r k i e)(k0:0<=k):jg Ms (cI Ms es) (n+k) (n+i) e/\(itR Ms (cI Ms es) (n+i)).2.drop n=(itR Ms r i).2:=by
 have Z:=m.e;subst Z;have add:=mU Ms (cI Ms es) n;have len:∀d,((n:Int)+k)-(itR Ms (cI Ms es) (n+d)).2.length=k-(itR Ms (itR Ms (cI Ms es) n).1 d).2.length:=fun d=>by
  rw[add d];show (n:Int)+k-((itR Ms (cI Ms es) n).2++_).length=_;rw[ax,m.l n (ay _)];omega
 refine{{fun j Y=>?_,?_,?_},?_}
 ·by_cases c:j<n
  ·have q:=m.d j c;refine{q.1,lX q.2 ?_};rw[m.l j (by omega)];omega
  ·obtain⟨d,rfl⟩:∃d,j=n+d:={j-n,by omega};have q:=s.1 d (by omega);rw[len d,add d];exact q
 ·rw[len i,add i];exact s.2.1
 ·rw[add i];exact s.2.2
 ·rw[add i];show ((itR Ms (cI Ms es) n).2++_).drop n=_;rw[List.drop_append,m.l n (ay _),jZ,rA,List.drop_of_length_le (Bb (m.l n (ay _))),kZ]
end
structure Rst(Ms:List MD)(r:RS):Prop where
 ok:ROk Ms.length r
 wk:∀(i:Nat) (M:MD) (s:Sta),Ms[i]?=some M->r.sts[i]?=some s->qx M.bs M.qs s.w
def CoK(CC CS m:aa)(F:Hp)(c:aa)(r:RS):Prop:=∃(dx sl pl:aa) (Z W:V) (Y:List aa) (ps:List V),F c=some (.ins CC dx (ij (.ref m) (.ref sl) (.ref pl) Z W))/\zi F Z r.re/\zj F W r.sp/\F sl=some (.lst (Y.map V.ref))/\aJ (StA CS F) Y r.sts/\F pl=some (.lst ps)/\aJ (hZ F) ps r.pd
theorem CoK.same{CC CS m:aa}{F G:Hp}(s:aY F G){c:aa}{r:RS}(h:CoK CC CS m F c r):CoK CC CS m G c r:=by
 obtain⟨dx,sl,pl,M,V,O,ps,h1,h2,U,J,Z,W,Y⟩:=h;exact{dx,sl,pl,M,V,O,ps,s _ _ h1,h2.same s,U.same s,s _ _ J,Paired.mono (fun _ _ z=>jP.same' s z) Z,s _ _ W,Paired.mono (fun _ _ z=>z.same s) Y}
theorem iC.rst{CC CS:aa}{Ms:List MD}{Hb G:Hp}{ex:Ex}{co m sl pl:aa}{r:RS}(c:iC CC CS Ms Hb ex G co m sl pl r):Rst Ms r:=⟨c.ok,c.wk⟩
theorem iC.weak{CC CS:aa}{Ms:List MD}{Hb Z G:Hp}{ex:Ex}{co m sl pl:aa}{r:RS}(s:aY Z Hb)(c:iC CC CS Ms Hb ex G co m sl pl r):iC CC CS Ms Z ex G co m sl pl r:={c.ok,fun b o e=>c.sm b o (s _ _ e),c.i1,c.i2,c.i3,c.n1,c.n2,c.n3,c.hc,c.hs,c.hp,c.wk,c.nt}
theorem iC.k{CC CS:aa}{Ms:List MD}{Hb G:Hp}{ex:Ex}{co m sl pl:aa}{r:RS}(c:iC CC CS Ms Hb ex G co m sl pl r):CoK CC CS m G co r:=by
 obtain⟨dx,M,V,h1,h2,U⟩:=c.hc;obtain⟨O,J,Z⟩:=c.hs;obtain⟨ps,W,Y⟩:=c.hp;exact{dx,sl,pl,M,V,O,ps,h1,h2.same dh,U.same dh,J,Paired.mono (fun _ _ z=>jP.same' dh z) Z,W,Paired.mono (fun _ _ z=>z.same dh) Y}
theorem rP{Z Y:Type}{R:Z->Y->Prop}:∀{xs:List Z} {ys:List Y} {i:Nat} {x:Z},aJ R xs ys->xs[i]?=some x->∃y,ys[i]?=some y/\R x y
 |_,_,0,_,.cons a _,e=>by
  cases e;exact{_,rfl,a}
 |_,_,i+1,_,.cons _ r,e=>rP (i:=i) r e
theorem HG.hid{CS:aa}{H0 H G:Hp}{st:aa}{bx:List (Str×Int)}{qu:List (Str×List Int)}{dr:Nat}{se:Int}{dxs bd qd:aa}{qa:List (Str×aa)}(s:aY H0 H)(n:HG CS H G st bx qu dr se dxs bd qd qa):jP CS (Hid {[],H0} G) st bx qu dr se:=by
 have v:∀{a:aa} {o:HO},a∈st::bd::qd::qa.map (·.2)->G a=some o->Hid {[],H0} G a=some o:=fun m e=>by
  rw[eA (iU (none_of s (n.fr _ m)))];exact e
 exact{dxs,bd,qd,qa,v (by simp) n.hst,v (by simp) n.hb,v (by simp) n.hq,n.hl.hid fun a m=>iU (none_of s (n.fr a (by simp only[ar];exact .inr (.inr (.inr m)))))}
theorem zi.hid{ex:Ex}{G:Hp}(nt:∀a∈ex,∃o,G a=some o/\∀xs,o≠.tup xs){v:V}:∀{q:Option Ev},zi G v q->zi (Hid ex G) v q
 |none,h=>h
 |some _,⟨k,e,h⟩=>{k,e,gF nt h}
theorem zj.hid{ex:Ex}{G:Hp}(nt:∀a∈ex,∃o,G a=some o/\∀xs,o≠.tup xs){v:V}:∀{q:Option Stp},zj G v q->zj (Hid ex G) v q
 |none,h=>h
 |some (.fin _),⟨t,k,e,h1,h2⟩=>{t,k,e,gF nt h1,gF nt h2}
 |some (.flt _ _),⟨t,k,e,h1,h2⟩=>{t,k,e,gF nt h1,gF nt h2}
section
variable{P:aK}{w:bD}{K:ae}{mg:Str->Option af}{base:cB}{f fCp fCI CC CM CS:aa}{fd fdCp fdCI:bU}
seal PS PSs PE PA PT PW PI PG PGs PC
abbrev nCc:List Str:=["self","other"]
abbrev pCc:List Str:=["self"]
theorem scCc:bO nCc pCc (aN gX):={}
theorem ndCc:((["state"]:List Str)++nCc).Nodup:=by decide +kernel
inductive Iv(CC CS:aa)(vs:List V)(H:Hp)(Q:VK)(_e:XK):Prop where
 |mk(Ms:List MD)(c m:aa)(r:RS)(_:vs=[.ref c])(_:CoK CC CS m H c r)(_:Rst Ms r)(_:Ms.length<1000)(_:r.pd.length<=1000000)(_:∀(G:Hp) (c' sl pl:aa),iC CC CS Ms H ⟨[c',sl,pl],H⟩ G c' m sl pl r->Q (.ref c') G):Iv CC CS vs H Q _e
def Iw(CC CS:aa):Sp:=fun vs H Q Z=>Iv CC CS vs H Q Z
theorem zw(F:Fun K "copy" "Course.copy" gX f fd)(eo:Mt K CS "copy" "State.copy" iR ["self"] fCp fdCp)(ei:bC P w K mg base CX0 3 fCp fdCp ["self"] (BQ CS))(MC:Mk K CC fCI)(ef:bC P w K mg base CX0 1 fCI fdCI ["self","model","states","pending"] (N7 CC))(ea:Binds K fdCI ["self","model","states","pending"] [])(T:CoT K mg CC)(TM:MdT K mg CM CS)(B:Bl mg) :
  bC P w K mg base CX0 4 f fd pCc (Iw CC CS):=by
 refine F.ok scCc (fun vs H Q E h=>?_) (fun dG A outer s H vs Q E hr h=>?_)
 ·obtain⟨Ms,c,m,r,rfl,_⟩:=h;rfl
 obtain⟨Ms,c,m,r,rfl,hc,hR,lM,lp,k⟩:=h;have r2:cX 2 _:=hr.mono (by decide);have r3:cX 3 _:=hr;refine{_,aj (bE (i:=1) scCc.nd rfl (Or.inl rfl) (iN MC ef r2 (by rfl) T.m ea .nil bh (aq (eE K (by rfl) (pv 0) (by rfl)) (aq (oO ["state"] (iH.open (NN:=nCc) (N:=nCc) (sc:=aN gX) rfl rfl (by decide +kernel) rfl (by decide +kernel) (by decide +kernel) rfl (by decide +kernel)) rfl (iM (eE K (by rfl) (pv 0) (by rfl))) (fun _ _ _ _=>dS (i:=0) ndCc rfl (Or.inl rfl)) (fun _ _ _ _=>kT) (fun _ _ _ _=>kj (pv 0) TM.clS eo.m ei r3 eo.b .nil bh)) (iw (hV (AC K (by rfl)) (by rfl) B.list boot_list (aq (eE K (by rfl) (pv 0) (by rfl)) ai)) ai)))))
  (aj (eP (pv 1) (eE K (by rfl) (pv 0) (by rfl)) rfl)
  (aj (eP (pv 1) (eE K (by rfl) (pv 0) (by rfl)) rfl)
  (aD (bQ (pv 1))))),?_}
 have big:=eD;obtain⟨dx,sl,pl,rv,sv,ss,ps,h1,h2,h3,h4,h5,h6,h7⟩:=hc;refine cy (cZ (uh ?_));refine{_,rfl,c,CC,dx,_,_,rfl,h1,T.cl,T.nM,co_m _ _ _ _ _,?_};have eb:=aO h5;have lst:=hR.ok.len;refine w8 (K:=K) (a:=sl) (xs:=ss.map V.ref) (fun R h=>{_,rfl,c,CC,dx,_,_,rfl,h1,T.cl,T.nS,HV _ _ _ _ _,h}) (SqL.of h4) (fun i ys G=>∃U:List aa,ys=U.map V.ref/\aY H G/\aJ (StA CS (Hid {[],H} G)) U (r.sts.take i)) {[],rfl,aY.refl _,by rw[jS];exact .nil} ?_ ?_ ?_
 ·rintro i ys G hi ⟨U,rfl,D,p1⟩;have:=aO p1;rw[cM]at this;rw[av];exact{SqL.of (D _ _ h4),by omega}
 ·rintro i x ys G hi ⟨U,rfl,D,p1⟩;rw[cC]at hi;obtain⟨st,hst,rfl⟩:=jL.mp hi;obtain⟨sta,hs,hS⟩:=rP h5 hst;have il:=(aF.mp hs).1;have hM:Ms[i]?=some Ms[i]:=aE (by omega);have wk:=hR.wk i _ sta hM hs;have el:=jP.same' D hS;obtain⟨dxs,bd,qd,qa,g1,_⟩:=id el;have kq:sta.qu.map (·.1)=Ms[i].qs:=wk.kq;have lq:sta.qu.length<100:=by
   have:=congrArg iW kq;rw[av]at this;have:=wk.fw;rw[ax]at this;omega
  refine{rfl,?_};unfold xu;refine iA ?_;refine{_,rfl,st,dxs,_,rfl,g1,rfl,st,sta.bx,sta.qu,sta.dr,sta.se,rfl,el,by rw[kq];exact wk.nq,lq,fun G' dV dL dt dv dz N=>{U++[dV],by rw[cu];rfl,D.trans N.sm,?_}};rw[fZ,hs];exact eN (Paired.mono (fun _ _ z=>jP.same' (gA N.sm) z) p1) (N.hid D)
 rintro ys G ⟨U,rfl,D,p1⟩ Z J;rw[av,eb,eg]at p1;have u1:=aH J (.lst (U.map V.ref));refine{_,rfl,c,CC,dx,_,_,rfl,u1 _ _ (D _ _ h1),T.cl,T.nP,HW _ _ _ _ _,pl,ps,rfl,.inl (SqL.of (u1 _ _ (D _ _ h6))),fun Y M=>?_};have u2:=aH M (.lst ps);have s2:=(D.trans u1).trans u2;have q1:=u2 _ _ (kN J (.lst (U.map V.ref)));have q2:=kN M (.lst ps);have ee:H Z=none:=none_of D J;have ek:H Y=none:=none_of (D.trans u1) M;have ej:Z≠Y:=aw (kN J _) M;have uG:=u1.trans u2;revert s2 q1 q2 uG;generalize upd (upd G Z (.lst (U.map V.ref))) Y (.lst ps)=G2;intro s2 q1 q2 uG;refine fun O W I ep nc=>{O,W,_,_,_,rfl,ah,fun G3 em but=>{rfl,bK ?_}};dsimp only;have b3:∀b o,G2 b=some o->b≠O/\G3 b=some o:=fun b o e=>{aw e I,but _ _ (aT (aT e (aw e ep)) (aw e I)) (aw e I)};refine cy {_,rfl,c,CC,dx,_,_,rfl,(b3 _ _ (s2 _ _ h1)).2,T.cl,T.nR,N0 _ _ _ _ _,_,rfl,O,CC,W,_,rfl,em,T.cl,T.nR,wU _ _ _ _ _,?_};rw[Dc];have b4:∀b o,G2 b=some o->b≠O/\upd G3 O (.ins CC W (ij (.ref m) (.ref Z) (.ref Y) rv .non)) b=some o:=fun b o e=>{(b3 b o e).1,aT (b3 b o e).2 (b3 b o e).1};refine cy {_,rfl,c,CC,dx,_,_,rfl,(b4 _ _ (s2 _ _ h1)).2,T.cl,T.nE,Kf _ _ _ _ _,_,rfl,O,CC,W,_,rfl,ah,T.cl,T.nE,wU _ _ _ _ _,?_};rw[zk];have b5:∀b o,G2 b=some o->b≠O/\upd (upd G3 O (.ins CC W (ij (.ref m) (.ref Z) (.ref Y) rv .non))) O (.ins CC W (ij (.ref m) (.ref Z) (.ref Y) rv sv)) b=some o:=fun b o e=>{(b4 b o e).1,aT (b4 b o e).2 (b4 b o e).1};have q3:upd (upd G3 O (.ins CC W (ij (.ref m) (.ref Z) (.ref Y) rv .non))) O (.ins CC W (ij (.ref m) (.ref Z) (.ref Y) rv sv)) O=some (.ins CC W (ij (.ref m) (.ref Z) (.ref Y) rv sv)):=ah;revert b5 q3;generalize upd (upd G3 O (.ins CC W (ij (.ref m) (.ref Z) (.ref Y) rv .non))) O (.ins CC W (ij (.ref m) (.ref Z) (.ref Y) rv sv))=G5;intro b5 q3;clear b4 b3 but em ep;have s5:aY G2 G5:=fun b o e=>(b5 b o e).2;have sH:aY H G5:=s2.trans s5;have ed:O≠Z:=fun z=>(b5 _ _ q1).1 z.symm;have ec:O≠Y:=fun z=>(b5 _ _ q2).1 z.symm;have eh:H O=none:=none_of s2 I;have g:∀a∈({[O,Z,Y],H}:Ex),∃o,G5 a=some o/\∀xs,o≠.tup xs:=fun a ha=>by
  rcases ha with ha|⟨o,e,n⟩
  case inr=>exact{o,sH _ _ e,n}
  have ha:a∈[O,Z,Y]:=ha;simp only[ar,aV,or_false]at ha
  rcases ha with rfl|rfl|rfl
  ·exact{_,q3,fun xs z=>by cases z}
  ·exact{_,s5 _ _ q1,fun xs z=>by cases z}
  ·exact{_,s5 _ _ q2,fun xs z=>by cases z}
 have sS:aY (Hid {[],H} G) (Hid {[O,Z,Y],H} G5):=w6 (uG.trans s5) fun a ha=>by
  simp only[ar,aV,or_false]at ha
  rcases ha with rfl|rfl|rfl
  ·exact none_of uG I
  ·exact J
  ·exact none_of u1 M
 dsimp only;refine gk {_,rfl,k G5 O Z Y {hR.ok,fun b o e=>{aw e eh,aw e ee,aw e ek,sH _ _ e},.inl (by simp),.inl (by simp),.inl (by simp),ed,ec,ej,{W,rv,sv,q3,zi.hid g (h2.same sH),zj.hid g (h3.same sH)},{U,s5 _ _ q1,Paired.mono (fun _ _ z=>jP.same' sS z) p1},{ps,s5 _ _ q2,Paired.mono (fun _ _ z=>hZ.hid g (z.same sH)) h7},hR.wk,g}}
end
def wit(x:Ev)(r:RS):RS:={r with pd:=jQ x r.pd}
theorem yp{x h:Ev}(l:HT.lexLt h.key x.key=true):∀dl:List Ev,jQ x (dl++[h])=jQ x dl++[h]
 | []=>by
  show (if HT.lexLt x.key h.key=true then _ else _)=_;rw[HT.lx_asym l];rfl
 |y::ys=>by
  show (if HT.lexLt x.key y.key=true then y::jQ x (ys++[h]) else x::y::(ys++[h]))=(if HT.lexLt x.key y.key=true then y::jQ x ys else x::y::ys)++[h]
  by_cases c:HT.lexLt x.key y.key=true
  ·rw[if_pos c,if_pos c,yp l ys];rfl
  ·rw[if_neg c,if_neg c];rfl
section
variable{Ms:List MD}{x:Ev}
theorem Iy{r:RS}(mo:lW Ms)(k:ROk Ms.length r)(n:r.pd≠[])(hx:∀h,r.pd.getLast?=some h->HT.lexLt h.key x.key=true)(un:∀e∈r.pd,x.key≠e.key)(J:x.fr=-1):d8 Ms (wit x r)=(wit x (d8 Ms r).1,(d8 Ms r).2):=by
 have Y:∀{h:Ev} {M:MD} {s:Sta},Did Ms r h M s->Did Ms (wit x r) h M s/\(wit x r).pd.dropLast=jQ x r.pd.dropLast:=fun {h M s} d=>by
  have l:r.pd.getLast?=some h:=by rw[d.pd,ff]
  have e:(wit x r).pd=jQ x r.pd.dropLast++[h]:=by
   show jQ x r.pd=_
   conv=>lhs;rw[d.pd]
   exact yp (hx h l) _
  have Z:(wit x r).pd.dropLast=jQ x r.pd.dropLast:=by rw[e,rC]
  exact{{by rw[Z];exact e,d.hM,d.hs},Z}
 cases jk mo k n with
 |err h M s e d q eq=>
  obtain⟨d',Z⟩:=Y d;rw[qC d' q,eq,Z];rfl
 |ok h M s w d q N eq=>
  obtain⟨d',Z⟩:=Y d;rw[sY d' q,eq,Z];obtain⟨n1,n2,n3⟩:=wQ k d N;have f:=k.fall;rw[d.pd]at f;obtain⟨f1,_⟩:=oq f;have W:h∈r.pd:=by
   rw[d.pd];exact aX _ (aA.mpr rfl)
  have h0:=(k.ev h W).to0;have V:∀y∈w.out,y.key≠x.key:=fun y hy=>nv (.inl (by rw[(n3 y hy).fr,J];omega));have ud:∀y∈r.pd.dropLast,x.key≠y.key:=fun y hy=>un y (dW _ hy);have g1:kR (lV w.out (jQ x r.pd.dropLast)):=kY (kX f1 ud) (fun y hy z U=>by
   rcases ar.mp ((gJ x _).mem_iff.mp U) with e|e
   ·rw[e];exact V y hy
   ·exact n1 y hy z e) n2
  have I:kR (jQ x (lV w.out r.pd.dropLast)):=kX (kY f1 n1 n2) fun y hy=>by
   rcases bM.mp ((eG _ _).mem_iff.mp hy) with e|e
   ·exact fun z=>V y e z.symm
   ·exact ud y e
  have O:(lV w.out (jQ x r.pd.dropLast)).Perm (jQ x (lV w.out r.pd.dropLast)):=by
   refine (eG _ _).trans ?_;refine ((iB w.out).append (gJ x _)).trans ?_;refine vI.trans ?_;exact ((eG _ _).symm.cons x).trans (gJ x _).symm
  rw[uk g1 I O];rfl
theorem xb{r:RS}{h:Ev}(mo:lW Ms)(k:ROk Ms.length r)(l:r.pd.getLast?=some h):∀e∈(d8 Ms r).1.pd,HT.lexLt h.key e.key=true:=by
 have n:r.pd≠[]:=fun z=>by
  rw[z]at l
  cases l
 have Z:∀{h':Ev},r.pd=r.pd.dropLast++[h']->h'=h/\∀e∈r.pd.dropLast,HT.lexLt h'.key e.key=true:=fun {h'} e=>by
  have f:=k.fall;rw[e]at f;refine{?_,(oq f).2};rw[e,ff]at l;exact cQ l
 cases jk mo k n with
 |err h' M s e d q eq=>
  rw[eq];obtain⟨rfl,lo⟩:=Z d.pd;exact lo
 |ok h' M s w d q N eq=>
  rw[eq];obtain⟨rfl,lo⟩:=Z d.pd;intro e Y
  rcases bM.mp ((eG _ _).mem_iff.mp Y) with z|z
  ·obtain⟨_,new,e1,_,W,_⟩:=N;have e1:w.out=new:=e1;rw[e1]at z;exact key_t (W e z).t0
  ·exact lo e z
theorem KB{r:RS}(mo:lW Ms)(k:ROk Ms.length r)(n:r.pd≠[]){P:Ev->Prop}(b:∀e∈r.pd,e.fr=-1->P e):∀e∈(d8 Ms r).1.pd,e.fr=-1->P e:=by
 cases jk mo k n with
 |err h M s e d q eq=>
  rw[eq];exact fun e Z=>b e (dW _ Z)
 |ok h M s w d q N eq=>
  rw[eq];have Y:h∈r.pd:=by
   rw[d.pd];exact aX _ (aA.mpr rfl)
  have h0:=(k.ev h Y).to0;intro e Z fr
  rcases bM.mp ((eG _ _).mem_iff.mp Z) with z|z
  ·obtain⟨_,new,e1,_,W,_⟩:=N;have e1:w.out=new:=e1;rw[e1]at z;have:=(W e z).fr;omega
  ·exact b e (dW _ z) fr
end
def zx(r:RS)(x:Ev):Prop:=∀h,r.re=some h->HT.lexLt h.key x.key=true
section
variable{Ms:List MD}{es:List Ev}{x:Ev}
theorem EX:cI Ms (es++[x])=wit (atP x es.length) (cI Ms es):=by
 unfold cI wit oY;rw[List.mapIdx_concat];unfold lV;rw[uM];rfl
theorem L7{e:Ev}(h:e∈oY es):e.c<es.length:=by
 obtain⟨i,hi⟩:=dH h;obtain⟨y,hy,rfl⟩:=qT hi;have:=(aF.mp hy).1;show (i:Int)<_;omega
theorem zy(mo:lW Ms):∀{i:Nat},(∀j,j<i->ROk Ms.length (itR Ms (cI Ms es) j).1/\gz (itR Ms (cI Ms es) j).1 1=none)->∀e∈(itR Ms (cI Ms es) i).1.pd,e.fr=-1->e∈oY es
 |0,_,e,Z,_=>by
  rcases bM.mp ((eG _ _).mem_iff.mp Z) with z|z
  ·exact z
  ·cases z
 |i+1,h,e,Z,fr=>KB mo (h i (by omega)).1 (eZ (h i (by omega)).2).2.1 (zy mo (i:=i) fun j Y=>h j (by omega)) e Z fr
theorem Iz(mo:lW Ms):∀{i:Nat},(∀j,j<i->ROk Ms.length (itR Ms (cI Ms es) j).1/\gz (itR Ms (cI Ms es) j).1 1=none)->∀h,(itR Ms (cI Ms es) i).1.re=some h->∀e∈(itR Ms (cI Ms es) i).1.pd,HT.lexLt h.key e.key=true
 |0,_,h,hr,e,Z=>by cases hr
 |i+1,H,h,hr,e,Z=>by
  have W:=Iz mo (i:=i) fun j V=>H j (by omega);have q:=H i (by omega);have hr:(d8 Ms (itR Ms (cI Ms es) i).1).1.re=some h:=hr;have Z:e∈(d8 Ms (itR Ms (cI Ms es) i).1).1.pd:=Z
  cases jk mo q.1 (eZ q.2).2.1 with
  |err h' M s e' d Y eq=>
   rw[eq]at hr Z;exact W h hr e (dW _ Z)
  |ok h' M s w d Y N eq=>
   have l:(itR Ms (cI Ms es) i).1.pd.getLast?=some h':=by rw[d.pd,ff]
   have z:=xb mo q.1 l e Z;rw[eq]at hr
   cases hr;exact z
theorem xc(mo:lW Ms):∀{n:Nat},(∀j,j<n->ROk Ms.length (itR Ms (cI Ms es) j).1/\gz (itR Ms (cI Ms es) j).1 1=none)->(∀j,j<=n->(itR Ms (cI Ms es) j).2.length=j)->zx (itR Ms (cI Ms es) n).1 x->∀j,j<n->∀h,(itR Ms (cI Ms es) j).1.pd.getLast?=some h->HT.lexLt h.key x.key=true
 |0,_,_,_,j,Z,_,_=>absurd Z (gD _)
 |n+1,H,L,P,j,Z,h,hl=>by
  have q:=H n (by omega);have P:zx (d8 Ms (itR Ms (cI Ms es) n).1).1 x:=P;have len:((itR Ms (cI Ms es) n).2++(d8 Ms (itR Ms (cI Ms es) n).1).2).length=n+1:=L (n+1) (ay _);rw[ax,L n (by omega)]at len
  cases jk mo q.1 (eZ q.2).2.1 with
  |err h' M s e' d W eq=>
   rw[eq]at len;have len:n+0=n+1:=len;omega
  |ok h' M s w d W N eq=>
   rw[eq]at P;have hx:HT.lexLt h'.key x.key=true:=P h' rfl;have l:(itR Ms (cI Ms es) n).1.pd.getLast?=some h':=by rw[d.pd,ff]
   by_cases c:j=n
   ·subst c;rw[l]at hl
    cases hl;exact hx
   ·refine xc mo (n:=n) (fun j Z=>H j (by omega)) (fun j Z=>L j (by omega)) (fun y hy=>?_) j (by omega) h hl;have Y:h'∈(itR Ms (cI Ms es) n).1.pd:=by
     rw[d.pd];exact aX _ (aA.mpr rfl)
    exact HT.lx_trans (Iz mo (fun j Z=>H j (by omega)) y hy h' Y) hx
theorem vK(mo:lW Ms):∀{n:Nat},(∀j,j<n->ROk Ms.length (itR Ms (cI Ms es) j).1/\gz (itR Ms (cI Ms es) j).1 1=none)->(∀j,j<n->∀h,(itR Ms (cI Ms es) j).1.pd.getLast?=some h->HT.lexLt h.key (atP x es.length).key=true)->itR Ms (cI Ms (es++[x])) n=(wit (atP x es.length) (itR Ms (cI Ms es) n).1,(itR Ms (cI Ms es) n).2)
 |0,_,_=>by
  show (cI Ms (es++[x]),[])=_;rw[EX];rfl
 |n+1,H,L=>by
  have q:=H n (by omega);show ((d8 Ms (itR Ms (cI Ms (es++[x])) n).1).1,(itR Ms (cI Ms (es++[x])) n).2++(d8 Ms (itR Ms (cI Ms (es++[x])) n).1).2)=_;rw[vK mo (fun j Z=>H j (by omega)) (fun j Z=>L j (by omega))];dsimp only;rw[Iy mo q.1 (eZ q.2).2.1 (L n (by omega)) (fun e Y=>?_) rfl]
  ·rfl
  ·by_cases c:e.fr=-1
   ·have:=L7 (zy mo (fun j Z=>H j (by omega)) e Y c);refine nv (.inr ?_);show (es.length:Int)≠e.c;omega
   ·exact nv (.inl fun z=>c z.symm)
theorem DH{r:RS}(k:ROk Ms.length r){y:Ev}(W:q8 Ms.length y)(Y:y.fr=-1)(un:∀e∈r.pd,y.key≠e.key):ROk Ms.length (wit y r):=by
 refine{k.len,kX k.fall un,fun e Z=>?_,fun e Z=>?_}
 ·rcases ar.mp ((gJ y _).mem_iff.mp Z) with z|z
  ·rw[z];exact W
  ·exact k.ev e z
 ·rcases ar.mp ((gJ y _).mem_iff.mp Z) with z|z
  ·rw[z];exact .inl Y
  ·exact k.cn e z
theorem IA(mo:lW Ms){n:Nat}{r:RS}(m:Mrk Ms es n r):∀e∈r.pd,(atP x es.length).key≠e.key:=fun e Z=>by
 rw[m.e]at Z
 by_cases c:e.fr=-1
 ·have:=L7 (zy mo m.d e Z c);refine nv (.inr ?_);show (es.length:Int)≠e.c;omega
 ·exact nv (.inl fun z=>c z.symm)
theorem Mrk.fork(mo:lW Ms){n:Nat}{r:RS}(m:Mrk Ms es n r)(ex:q8 Ms.length x)(p:zx r (atP x es.length)):Mrk Ms (es++[x]) n (wit (atP x es.length) r)/\(itR Ms (cI Ms (es++[x])) n).2=(itR Ms (cI Ms es) n).2:=by
 have W:=m.e;subst W;have V:=xc mo m.d m.l p;have Y:∀j,j<=n->itR Ms (cI Ms (es++[x])) j=(wit (atP x es.length) (itR Ms (cI Ms es) j).1,(itR Ms (cI Ms es) j).2):=fun j Z=>vK mo (fun i hi=>m.d i (by omega)) (fun i hi=>V i (by omega));refine{{by rw[Y n (ay _)],fun j Z=>by rw[Y j Z];exact m.l j Z,fun j Z=>?_},by rw[Y n (ay _)]};rw[Y j (by omega)];have q:=m.d j Z;obtain⟨d1,d2,d3⟩:=eZ q.2;refine{DH q.1 ⟨ex.to0,ex.to1,ex.wt,ex.wa,ex.wb⟩ rfl (IA mo {rfl,fun i hi=>m.l i (by omega),fun i hi=>m.d i (by omega)}),?_};unfold gz;show (match (itR Ms (cI Ms es) j).1.sp with|some s=>_|none=>_)=none;rw[d1];dsimp only;rw[if_neg (fun z=>?_),if_neg (by decide)];have pl:=(gJ (atP x es.length) (itR Ms (cI Ms es) j).1.pd).length_eq;have z:(jQ (atP x es.length) (itR Ms (cI Ms es) j).1.pd)=[]:=pF.mp z;rw[z]at pl
 cases pl
end
def Wp(p:aa)(H:Hp):Hp:=fun a=>if a=p then none else H a
theorem gQ{p a:aa}{H:Hp}{o:HO}(h:H a=some o)(n:a≠p):Wp p H a=some o:=by
 unfold Wp;rw[if_neg n];exact h
theorem uR{p a:aa}{H:Hp}{o:HO}(h:Wp p H a=some o):a≠p/\H a=some o:=by
 unfold Wp at h
 by_cases c:a=p
 ·rw[if_pos c]at h
  cases h
 ·rw[if_neg c]at h;exact⟨c,h⟩
theorem But.wp{p:aa}{H H':Hp}(b:But p H H'):aY (Wp p H) (Wp p H'):=fun a o e=>by
 obtain⟨n,h⟩:=uR e;exact gQ (b _ _ h n) n
theorem o5(p:aa)(H:Hp):aY (Wp p H) H:=fun a o e=>(uR e).2
theorem mV{p:aa}{G F:Hp}(s:aY G F):aY (Wp p G) (Wp p F):=fun a o e=>gQ (s _ _ (uR e).2) (uR e).1
structure Rn(CM:aa)(Ms:List MD)(es:List Ev)(H:Hp)(m sgl:aa):Prop where
 mo:vg CM Ms H m
 lm:Ms.length<1000
 sg:∃svs,H sgl=some (.lst svs)/\aJ (pO H) svs es
 le:es.length<64
 ev:∀e∈es,q8 Ms.length e
theorem Rn.same{CM:aa}{Ms:List MD}{es:List Ev}{H G:Hp}{m Z:aa}(s:aY H G)(h:Rn CM Ms es H m Z):Rn CM Ms es G m Z:=by
 obtain⟨Y,h1,h2⟩:=h.sg;exact{h.mo.same s,h.lm,{Y,s _ _ h1,Paired.mono (fun _ _ z=>z.same s) h2},h.le,h.ev}
def kJ(m s e k:V):List (Str×V):=[("model",m),("signs",s),("every",e),("kept",k)]
structure KeT(K:ae)(mg:Str->Option af)(CK:aa):Prop where
 cl:Cls K CK
 nM:eI K CK "model"
 nS:eI K CK "signs"
 nE:eI K CK "every"
 nK:eI K CK "kept"
 m:mg "Keeper"=some (.ref CK)
theorem ke_m(m s e k:V):(kJ m s e k).lookup ("model":Str)=some m:=rfl
theorem ke_s(m s e k:V):(kJ m s e k).lookup ("signs":Str)=some s:=rfl
theorem ke_e(m s e k:V):(kJ m s e k).lookup ("every":Str)=some e:=rfl
theorem Om(m s e k:V):(kJ m s e k).lookup ("kept":Str)=some k:=rfl
theorem On(m s e k:V):(kJ m s e k).length<1000:=by show 4<1000;decide
theorem KC(m s e k k':V):cJ "kept" k' (kJ m s e k)=kJ m s e k':=rfl
theorem qK(m s e k:V){x:Str}(hx:(["model","signs","every","kept"]:List Str).contains x=false):(kJ m s e k).lookup x=none:=by
 have z:∀k∈(["model","signs","every","kept"]:List Str),(x==k)=false:=fun k hk=>beq_eq_false_iff_ne.mpr fun e=>by
  rw[e,kE.mpr hk]at hx
  cases hx
 unfold kJ;rw[dQ (z _ (by simp)),dQ (z _ (by simp)),dQ (z _ (by simp)),dQ (z _ (by simp))];rfl
structure Kpt(CC CS m:aa)(Ms:List MD)(es:List Ev)(F:Hp)(kvs:List (Key×V)):Prop where
 at_:∀q∈kvs,∃(n:Nat) (c:aa) (r:RS),q=(Sum.inl (n:Int),V.ref c)/\CoK CC CS m F c r/\Rst Ms r/\Mrk Ms es n r/\r.pd.length<=900000
 nd:(kvs.map (·.1)).Nodup
 few:kvs.length<=50
theorem Kpt.same{CC CS m:aa}{Ms:List MD}{es:List Ev}{F G:Hp}{kvs:List (Key×V)}(s:aY F G)(h:Kpt CC CS m Ms es F kvs):Kpt CC CS m Ms es G kvs:={fun q hq=>by
 obtain⟨n,c,r,e,h1,h2⟩:=h.at_ q hq;exact{n,c,r,e,h1.same s,h2},h.nd,h.few}
def rQ(kvs:List (Key×V)):List Int:=kvs.map fun q=>match q.1 with
 |.inl n=>n
 |.inr _=>0
theorem Kpt.keys{CC CS m:aa}{Ms:List MD}{es:List Ev}{F:Hp}{kvs:List (Key×V)}(h:Kpt CC CS m Ms es F kvs):kvs.map (·.1)=(rQ kvs).map Sum.inl:=by
 unfold rQ;rw[dR];refine ia fun q hq=>?_;obtain⟨n,c,r,e,_⟩:=h.at_ q hq;rw[e];rfl
theorem KD{kvs:List (Key×V)}{k:Key}{v:V}(h:jN kvs k=some v):(k,v)∈kvs:=by
 unfold jN at h;obtain⟨p,hp,rfl⟩:=jL.mp h;have h1:=List.mem_of_find?_eq_some hp;have h2:=List.find?_some hp;have:p.1=k:=by simpa using h2
 rw[<- this];exact h1
structure xC(CK CC CM CS:aa)(Ms:List MD)(es:List Ev)(F:Hp)(k m sl kd:aa)(ev:Int)(kvs:List (Key×V)):Prop where
 ob:∃dx,F k=some (.ins CK dx (kJ (.ref m) (.ref sl) (.int ev) (.ref kd)))
 rn:Rn CM Ms es F m sl
 dk:F kd=some (.dK kvs)
 kk:Kpt CC CS m Ms es F kvs
theorem xC.same{CK CC CM CS:aa}{Ms:List MD}{es:List Ev}{F G:Hp}{k m sl kd:aa}{ev:Int}{kvs:List (Key×V)}(s:aY F G)(h:xC CK CC CM CS Ms es F k m sl kd ev kvs):xC CK CC CM CS Ms es G k m sl kd ev kvs:=by
 obtain⟨dx,h1⟩:=h.ob;exact{{dx,s _ _ h1},h.rn.same s,s _ _ h.dk,h.kk.same s}
section
variable{P:aK}{w:bD}{K:ae}{mg:Str->Option af}{base:cB}{f fCp fCf fR CK CC CM CS CN:aa}{fd fdCp fdCf fdR:bU}
seal PS PSs PE PA PT PW PI PG PGs PC
inductive spKmI(CK:aa)(vs:List V)(H:Hp)(Q:VK)(_e:XK):Prop where
 |mk(k kd dx:aa)(m s e:V)(kvs:List (Key×V))(ns:List Int)(_:vs=[.ref k])(_:H k=some (.ins CK dx (kJ m s e (.ref kd))))(_:H kd=some (.dK kvs))(_:kvs.map (·.1)=ns.map Sum.inl)(_:ns.length<64)(_:∀(l:aa) (ns':List Int),H l=none->ns'.Perm ns->ns'.Pairwise (·<=·)->Q (.ref l) (upd H l (.lst (ns'.map V.int)))):spKmI CK vs H Q _e
abbrev nKc:List Str:=["self","number"]
abbrev pKc:List Str:=["self","number"]
theorem scKc:bO nKc pKc (aN eY):={}
inductive L8(CK CC CM CS CN:aa)(vs:List V)(H:Hp)(Q:VK)(E:XK):Prop where
 |mk(Ms:List MD)(es:List Ev)(k m sl kd:aa)(ev n:Int)(kvs:List (Key×V))(_:vs=[.ref k,.int n])(_:xC CK CC CM CS Ms es H k m sl kd ev kvs)(_:(n∉rQ kvs->E (.ref CN) none H))(_:∀(G:Hp) (c' sl' pl':aa) (nn:Nat) (r:RS),n∈rQ kvs->n=nn->Mrk Ms es nn r->r.pd.length<=900000->iC CC CS Ms H ⟨[c',sl',pl'],H⟩ G c' m sl' pl' r->Q (.ref c') G):L8 CK CC CM CS CN vs H Q E
def Oo(CK CC CM CS CN:aa):Sp:=fun vs H Q E=>L8 CK CC CM CS CN vs H Q E
theorem L9(F:Fun K "course_from" "Keeper.course_from" eY f fd)(Y:Mt K CC "copy" "Course.copy" gX pCc fCp fdCp)(V:bC P w K mg base CX0 4 fCp fdCp pCc (Iw CC CS))(T:KeT K mg CK)(TC:CoT K mg CC)(mN:mg "NoMark"=some (.ref CN))(xN:cR K CN oN "ValueError.__new__"=true):bC P w K mg base (CXo P w) 5 f fd pKc (Oo CK CC CM CS CN):=by
 refine F.okX scKc (fun vs H Q E h=>?_) (fun M A outer s H vs Q E hr h=>?_)
 ·obtain⟨Ms,es,k,m,sl,kd,ev,n,kvs,rfl,_⟩:=h;rfl
 obtain⟨Ms,es,k,m,sl,kd,ev,n,kvs,rfl,hk,J,q⟩:=h;have Z:=mC hr;have D:cX 4 _:=hr;refine{_,aj (cW (pX (Eo Z (pv 1) (eE K (by rfl) (pv 0) (by rfl)))) (aD (jF dO rfl rfl mN xN ((dP cg ai)))) cj)
  (aD (bQ (kj (qO Z (eE K (by rfl) (pv 0) (by rfl)) (pv 1) (fun _ _=>rfl)) TC.cl Y.m V D Y.b .nil bh))),?_}
 have big:=eD;obtain⟨dx,ob⟩:=hk.ob;have dg:pI H kd (.int n) (jN kvs (Sum.inl n)):=pI.k (k:=Sum.inl n) hk.dk;refine cy (iz {_,rfl,_,rfl,k,CK,dx,_,_,rfl,ob,T.cl,T.nK,Om _ _ _ _,kd,_,rfl,dg,_,rfl,?_});have key:=hk.kk.keys
 cases e:jN kvs (Sum.inl n) with
 |none=>
  refine iA {BR,J fun z=>?_};refine FX e ?_;rw[key];exact jj z
 |some v=>
  refine gu ?_;dsimp only[o8];have mem:=KD e;have nm:n∈rQ kvs:=by
   have:=jj (f:=(·.1)) mem;rw[key]at this;obtain⟨x,hx,e'⟩:=cH.mp this
   cases e';exact hx
  obtain⟨nn,c,r,eq,h1,h2,g,h4⟩:=hk.kk.at_ _ mem
  cases eq;rw[e]at dg;obtain⟨U,I,bF,rv,sv,ss,ps,g1,_⟩:=id h1;refine gk {_,rfl,k,CK,dx,_,_,rfl,ob,T.cl,T.nK,Om _ _ _ _,_,rfl,kd,_,rfl,dg,c,U,_,rfl,g1,wV _ _ _ _ _ (by decide +kernel),Ms,c,m,r,rfl,h1,h2,hk.rn.lm,by omega,fun G c' O W C=>q G c' O W nn r nm rfl g h4 C}
abbrev nKg:List Str:=["self","number","most"]
abbrev pKg:List Str:=["self","number","most"]
theorem scKg:bO nKg pKg (aN iJ):={}
inductive Ma(CK CC CM CS CN:aa)(vs:List V)(H:Hp)(Q:VK)(E:XK):Prop where
 |mk(Ms:List MD)(es:List Ev)(k m sl kd:aa)(ev n most:Int)(kvs:List (Key×V))(_:vs=[.ref k,.int n,.int most])(_:xC CK CC CM CS Ms es H k m sl kd ev kvs)(_:most<=1000)(_:(n∉rQ kvs->E (.ref CN) none H))(_:∀(G:Hp) (t rl:aa) (en:V) (rvs:List V) (nn i:Nat) (r:RS) (e:End),n∈rQ kvs->n=nn->Mrk Ms es nn r->jg Ms r most i e->aY H G->G t=some (.tup [.ref rl,en])->G rl=some (.lst rvs)->H rl=none->aJ (RcIn G) rvs (itR Ms r i).2->j0 G en e->Q (.ref t) G):Ma CK CC CM CS CN vs H Q E
def spKg(CK CC CM CS CN:aa):Sp:=fun vs H Q E=>Ma CK CC CM CS CN vs H Q E
theorem ok_kg(F:Fun K "go_on" "Keeper.go_on" iJ f fd)(V:Mt K CK "course_from" "Keeper.course_from" eY pKc fCf fdCf)(M:bC P w K mg base (CXo P w) 5 fCf fdCf pKc (Oo CK CC CM CS CN))(I:Df K mg "run_on" lN ["course","most"] fR fdR)(GR:bC P w K mg base CX0 39 fR fdR ["course","most"] (AF CC CM CS))(T:KeT K mg CK):bC P w K mg base (CXo P w) 40 f fd pKg (spKg CK CC CM CS CN):=by
 refine F.okX scKg (fun vs H Q E h=>?_) (fun bH A outer s H vs Q E hr h=>?_)
 ·obtain⟨Ms,es,k,m,sl,kd,ev,n,Z,kvs,rfl,_⟩:=h;rfl
 obtain⟨Ms,es,k,m,sl,kd,ev,n,Z,kvs,rfl,hk,hm,no,q⟩:=h;have r5:cX 5 _:=hr.mono (by decide);have O:cX 39 _:=hr;refine{_,aD (bQ (aM GR O (by rfl) I.m I.F.kp I.b .nil bh (iw (eT (pv 0) T.cl V.m M r5 V.b .nil (dO.passes fun _ _ _ z=>z) (bf (pv 1) ai)) (bf (pv 2) ai)))),?_};obtain⟨dx,ob⟩:=hk.ob;refine gk {_,rfl,k,dx,_,rfl,ob,qK _ _ _ _ (by decide +kernel),_,rfl,Ms,es,k,m,sl,kd,ev,n,kvs,rfl,hk,no,fun G c' Y W nn r nm en hM lp C=>?_};refine{_,rfl,Ms,H,_,c',m,Y,W,r,Z,rfl,hk.rn.mo,C,hm,by omega,fun G2 t i e R=>?_};obtain⟨rl,env,U,g1,J,_,g3,g4⟩:=R.rs;have g:aY H G2:=fun a o e=>(R.cc.sm a o e).2.2.2;have D:H rl=none:=by
  cases z:H rl with
  |none=>rfl
  |some o=>
   refine absurd (.inr {o,z,fun xs y=>?_}:rl∈({[c',Y,W],H}:Ex)) (gO J);have:=dh _ _ J;rw[g _ _ z,y]at this
   cases this
 exact q G2 t rl env U nn i r e nm en hM R.st g (dh _ _ g1) (dh _ _ J) D (Paired.mono (fun _ _ z=>z.same dh) g3) (g4.same dh)
end
theorem IB{kvs:List (Key×V)}{k:Key}{v:V}(h:k∉kvs.map (·.1)):iY kvs k v=kvs++[(k,v)]:=z5 v (by
 cases z:jN kvs k with
 |none=>rfl
 |some x=>exact absurd (Cq z) h)
def MoT(CM:aa)(Ms:List MD)(H:Hp)(m:aa):Prop:=∃(dx Z:aa) (fs:List (Str×V)),H m=some (.ins CM dx fs)/\fs.lookup ("machines":Str)=some (.ref Z)/\zh (Ms.length:Int) H Z Ms/\Tree H 29 (.ref Z)
theorem MoT.at{CM:aa}{Ms:List MD}{H:Hp}{m:aa}(h:MoT CM Ms H m):vg CM Ms H m:=by
 obtain⟨dx,Z,fs,h1,h2,Y,_⟩:=h;exact⟨dx,Z,fs,h1,h2,Y⟩
theorem Tree.mono{H G:Hp}(s:aY H G):∀{n:Nat} {v:V},Tree H n v->Tree G n v
 |0,_,h=>h
 |n+1,v,h=>by
  rcases h with h|⟨p,xs,e,h1,h2,Z⟩
  ·exact .inl h
  ·exact .inr {p,xs,e,h1.imp (s _ _) (s _ _),h2,fun x hx=>Tree.mono s (Z x hx)}
theorem MoT.same{CM:aa}{Ms:List MD}{H G:Hp}{m:aa}(s:aY H G)(h:MoT CM Ms H m):MoT CM Ms G m:=by
 obtain⟨dx,Y,fs,h1,h2,W,Z⟩:=h;exact{dx,Y,fs,s _ _ h1,h2,W.same s,Z.mono s}
theorem Alike.tree{H H':Hp}:∀{n:Nat} {v Z:V},Tree H n v->Alike H H' n v Z->Tree H' n Z
 |0,v,Z,h,a=>by
  rw[show Z=v from a];exact h
 |n+1,v,Z,h,a=>by
  rcases a with⟨h1,rfl⟩|⟨p,Y,xs,ys,rfl,rfl,h1,h2,r⟩|⟨p,Y,xs,ys,rfl,rfl,h1,h2,r⟩
  ·exact .inl h1
  all_goals
   rcases h with h|⟨q,zs,e,e1,U,e3⟩
   ·cases h
   ·cases e;have O:zs=xs:=by
     rcases e1 with e1|e1
     all_goals
      rw[h1]at e1
      cases e1
      try rfl
    subst O;refine .inr {Y,ys,rfl,?_,by rw[<- aO r];exact U,fun y hy=>?_}
    ·first
      |exact .inl h2
      |exact .inr h2
    ·obtain⟨j,W⟩:=dH hy;obtain⟨x,hx,z⟩:=jw r W;exact Alike.tree (e3 x (cA hx)) z
theorem IC{m:Int}{H H2:Hp}{Y:aa}{Ms:List MD}{W:V}(h:zh m H Y Ms)(t:Tree H 29 (.ref Y))(U:Alike H H2 29 (.ref Y) W):∃Z,W=.ref Z/\zh m H2 Z Ms/\Tree H2 29 (.ref Z):=by
 have t':=Alike.tree t U;obtain⟨xs,h0,p⟩:=h;obtain⟨Z,ys,rfl,h1,O⟩:=n6 h0 U;refine⟨Z,rfl,⟨ys,h1,qR (R:=MoI m H) (S:=Alike H H2 28) (T:=Tree H 28) (fun v M W z b c=>?_) p O fun x hx=>?_⟩,t'⟩
 ·exact⟨z.ma.alike c b,z.fs.alike b,z.kb,z.nb,z.nq,z.lb,z.lq,z.ld,z.lh,z.wb,z.hk⟩
 ·rcases t with t|⟨q,zs,e,e1,J,e3⟩
  ·cases t
  ·cases e
   rcases e1 with e1|e1
   ·rw[h0]at e1
    cases e1;exact e3 x hx
   ·rw[h0]at e1
    cases e1
theorem Oq{CM:aa}{G H2 G':Hp}{m Z k:aa}{W:V}(O:Z≠m)(hk:G k≠none)(b:But k (upd H2 m (.ins CM Z (cJ "machines" W []))) G'):aY (Nw (upd (upd G Z (.own m)) m (.ins CM Z [])) H2) (Hid ⟨[],G⟩ G'):=fun a o e=>by
 have n:(upd (upd G Z (.own m)) m (.ins CM Z [])) a=none:=by
  unfold Nw at e
  by_cases c:(upd (upd G Z (.own m)) m (.ins CM Z [])) a=none
  ·exact c
  ·rw[if_neg c]at e
   cases e
 have Y:a≠m:=fun z=>by
  rw[z,ah]at n
  cases n
 have U:a≠Z:=fun z=>by
  rw[z,aL O,ah]at n
  cases n
 have ga:G a=none:=by
  rw[aL Y,aL U]at n;exact n
 rw[eA (iU ga)];exact b _ _ (by rw[aL Y];exact nw_le _ _ e) fun z=>hk (z ▸ ga)
theorem mo_h{CM:aa}{Ms:List MD}{G H2 G':Hp}{m Z Y k:aa}(nm:G m=none)(W:Z≠m)(hk:G k≠none)(mo:zh (Ms.length:Int) (Nw (upd (upd G Z (.own m)) m (.ins CM Z [])) H2) Y Ms)(t:Tree (Nw (upd (upd G Z (.own m)) m (.ins CM Z [])) H2) 29 (.ref Y))(b:But k (upd H2 m (.ins CM Z (cJ "machines" (.ref Y) []))) G'):MoT CM Ms (Hid {[],G} G') m:=by
 have s:=Oq W hk b;exact{Z,Y,_,by rw[eA (iU nm)];exact b _ _ ah (fun z=>hk (z ▸ nm)),rfl,mo.same s,t.mono s}
section
variable{P:aK}{w:bD}{K:ae}{mg:Str->Option af}{base:cB}{f fMI fCa CK CC CM CS:aa}{fd fdMI fdCa:bU}
seal PS PSs PE PA PT PW PI PG PGs PC
inductive spKtI(CK CC CS:aa)(vs:List V)(H:Hp)(Q:VK)(_e:XK):Prop where
 |mk(F:Hp)(Ms:List MD)(es:List Ev)(mo k kd dx:aa)(m s e:V)(num:Int)(kvs:List (Key×V))(_:vs=[.ref k,.int num])(_:H k=some (.ins CK dx (kJ m s e (.ref kd))))(_:Wp k H kd=some (.dK kvs))(_:Kpt CC CS mo Ms es F kvs)(_:∀(G:Hp) (kd':aa) (kvs':List (Key×V)),But k H G->G k=some (.ins CK dx (kJ m s e (.ref kd')))->G kd'=some (.dK kvs')->H kd'=none->Kpt CC CS mo Ms es F kvs'->Q .non G):spKtI CK CC CS vs H Q _e
abbrev nKi:List Str:=["self","model","signs","every"]
abbrev pKi:List Str:=["self","model","signs","every"]
theorem scKi:bO nKi pKi (aN ng):={}
inductive Mb(CK CM:aa)(vs:List V)(H:Hp)(Q:VK)(_e:XK):Prop where
 |mk(Ms:List MD)(es:List Ev)(k dx m0 sg:aa)(ev:Int)(_:vs=[.ref k,.ref m0,.ref sg,.int ev])(_:H k=some (.ins CK dx []))(_:MoT CM Ms H m0)(_:Rn CM Ms es H m0 sg)(_:1<=ev)(_:ev<=100)(_:∀(G:Hp) (m sl:aa) (v:V),But k H G->G k=some (.ins CK dx (kJ (.ref m) (.ref sl) (.int ev) v))->Rn CM Ms es (Hid ⟨[],H⟩ G) m sl->Q .non G):Mb CK CM vs H Q _e
def Os(CK CM:aa):Sp:=fun vs H Q Z=>Mb CK CM vs H Q Z
theorem ok_ki(F:Fun K "__init__" "Keeper.__init__" ng f fd)(eb:Mk K CM fMI)(ec:bC P w K mg base CX0 31 fMI fdMI ["self","machines"] (Nv CM 29))(dv:Binds K fdMI ["self","machines"] [])(V:Df K mg "course_at_first" fv ["model","signs"] fCa fdCa)(dL:bC P w K mg base CX0 4 fCa fdCa ["model","signs"] (Dp CC CM CS))(T:KeT K mg CK)(TM:MdT K mg CM CS)(B:Bl mg):bC P w K mg base CX0 33 f fd pKi (Os CK CM):=by
 refine F.ok scKi (fun vs H Q E h=>?_) (fun dj A outer s H vs Q E hr h=>?_)
 ·obtain⟨Ms,es,k,dx,m0,sg,ev,rfl,_⟩:=h;rfl
 obtain⟨Ms,es,k,dx,m0,sg,ev,rfl,hk,hM,J,e1,e2,q⟩:=h;have de:=mC hr;have r4:cX 4 _:=hr.mono (by decide);have ea:cX 32 _:=hr;refine{_,aj (eP (pv 0) (iN eb ec ea (by rfl) TM.mM dv .nil bh (aq (eE K (by rfl) (pv 1) (by rfl)) ai)) rfl)
  (aj (eP (pv 0) (hV (AC K (by rfl)) (by rfl) B.list boot_list (bf (pv 2) ai)) rfl)
  (aj (eP (pv 0) (cO (xM rfl) (by rfl) B.max boot_max (bf (pv 3) (dP au ai))) rfl)
  (aD (eP (pv 0) (Cp (Ab au (aM dL r4 (by rfl) V.m V.F.kp V.b .nil bh (aq (eE K (by rfl) (pv 0) (by rfl)) (aq (eE K (by rfl) (pv 0) (by rfl)) ai))) Co) rfl rfl (by simp) (by decide)) rfl)))),?_}
 have big:=eD;obtain⟨dG,ml,fs,g1,g2,g3,g4⟩:=hM;obtain⟨Z,M,dt⟩:=J.sg;refine cy (uh ?_);refine{_,rfl,m0,CM,dG,_,_,rfl,g1,TM.clM,TM.nM,g2,fun m W hm g eh=>?_};have sA:aY H (upd (upd H W (.own m)) m (.ins CM W [])):=fun b o e=>by
  rw[aL (aw e hm),aL (aw e g)];exact e
 refine{m,W,.ref ml,rfl,ah,g4.mono sA,fun v' G5 s5 al=>{rfl,?_}};obtain⟨U,rfl,ed,D⟩:=IC (g3.same sA) (g4.mono sA) al;have kn:H k≠none:=fun z=>by
  rw[hk]at z
  cases z
 have di:m≠k:=(aw hk hm).symm;have I:aY H (upd G5 m (.ins CM W (cJ "machines" (.ref U) []))):=sW (sA.trans s5) hm _;have mo:∀{G:Hp},But k (upd G5 m (.ins CM W (cJ "machines" (.ref U) []))) G->vg CM Ms (Hid {[],H} G) m:=fun b=>(mo_h hm eh kn ed D b).at;revert mo I;generalize upd G5 m (.ins CM W (cJ "machines" (.ref U) []))=GM;intro I mo;clear ed D al s5 sA g eh;refine{_,rfl,k,CK,dx,_,rfl,I _ _ hk,T.cl,T.nM,(by show 0<1000;decide),?_};have b1:But k GM (upd GM k (.ins CK dx (cJ "model" (.ref m) []))):=But.upd k GM _;have dV:sg≠k:=fun z=>by
  rw[z,hk]at M
  cases M
 refine cy {_,rfl,sg,Z,rfl,.inl (SqL.of (b1 _ _ (I _ _ M) dV)),fun sl Y=>{_,rfl,k,CK,dx,_,rfl,(aH Y (.lst Z)) _ _ ah,T.cl,T.nS,(by show 1<1000;decide),?_}};have dn:H sl=none:=by
  cases z:H sl with
  |none=>rfl
  |some o=>
   have y:=I _ _ z
   by_cases c:sl=k
   ·rw[c,ah]at Y
    cases Y
   ·rw[aL c,y]at Y
    cases Y
 have O:sl≠k:=(aw (ah:upd GM k (.ins CK dx (cJ "model" (.ref m) [])) k=_) Y).symm;refine cy {_,rfl,ev,1,rfl,_,rfl,k,CK,dx,_,rfl,ah,T.cl,T.nE,(by show 2<1000;decide),?_};rw[if_neg (by omega:¬(1:Int)>ev)];have qk:upd (upd (upd (upd GM k (.ins CK dx (cJ "model" (.ref m) []))) sl (.lst Z)) k (.ins CK dx (cJ "signs" (.ref sl) (cJ "model" (.ref m) [])))) k (.ins CK dx (cJ "every" (.int ev) (cJ "signs" (.ref sl) (cJ "model" (.ref m) [])))) k=some (.ins CK dx [("model",.ref m),("signs",.ref sl),("every",.int ev)]):=ah;have b4:But k GM (upd (upd (upd (upd GM k (.ins CK dx (cJ "model" (.ref m) []))) sl (.lst Z)) k (.ins CK dx (cJ "signs" (.ref sl) (cJ "model" (.ref m) [])))) k (.ins CK dx (cJ "every" (.int ev) (cJ "signs" (.ref sl) (cJ "model" (.ref m) []))))):=(((b1.same (aH Y _)).trans (But.upd k _ _)).trans (But.upd k _ _));have qs:upd (upd (upd (upd GM k (.ins CK dx (cJ "model" (.ref m) []))) sl (.lst Z)) k (.ins CK dx (cJ "signs" (.ref sl) (cJ "model" (.ref m) [])))) k (.ins CK dx (cJ "every" (.int ev) (cJ "signs" (.ref sl) (cJ "model" (.ref m) [])))) sl=some (.lst Z):=aT (aT ah O) O;revert qk b4 qs;generalize upd (upd (upd (upd GM k (.ins CK dx (cJ "model" (.ref m) []))) sl (.lst Z)) k (.ins CK dx (cJ "signs" (.ref sl) (cJ "model" (.ref m) [])))) k (.ins CK dx (cJ "every" (.int ev) (cJ "signs" (.ref sl) (cJ "model" (.ref m) []))))=G4;intro qk b4 qs;clear b1 Y;have rn:∀{G:Hp},But k G4 G->Rn CM Ms es (Hid {[],H} G) m sl:=fun b=>{mo (b4.trans b),J.lm,{Z,by rw[eA (iU dn)];exact b _ _ qs O,Paired.mono (fun v e ⟨t,e',h⟩=>by
  have nt:t≠k:=fun z=>by
   rw[z,hk]at h
   cases h
  refine{t,e',?_};rw[eA fun z=>?_]
  ·exact b _ _ (b4 _ _ (I _ _ h) nt) nt
  ·rcases z with z|⟨o,z,y⟩
   ·cases z
   ·have z:H t=some o:=z;rw[h]at z
    cases z;exact y _ rfl) dt},J.le,J.ev}
 refine fun d hd=>?_;have sd:=aH hd (.dK []);have R5:=(rn (But.same (But.refl k G4) sd)).same dh;obtain⟨ef,ee,ei⟩:=R5.sg;refine{_,rfl,k,CK,dx,_,_,rfl,sd _ _ qk,T.cl,T.nM,rfl,_,rfl,k,CK,dx,_,_,rfl,sd _ _ qk,T.cl,T.nS,rfl,Ms,m,sl,ef,es,rfl,R5.mo,J.lm,ee,ei,J.le,J.ev,fun G6 co dc da C=>?_};have s6:aY (upd G4 d (.dK [])) G6:=fun a o e=>(C.sm a o e).2.2.2;refine{s6 _ _ ah,[(Sum.inl 0,.ref co)],rfl,(by show 1<=15;decide),?_};have dz:k≠d:=aw qk hd;refine{_,rfl,k,CK,dx,_,rfl,aT ((sd.trans s6) _ _ qk) dz,T.cl,T.nK,(by show 3<1000;decide),?_};have b7:But k G4 (upd (upd G6 d (.dK (lI [] [(Sum.inl 0,.ref co)]))) k (.ins CK dx (kJ (.ref m) (.ref sl) (.int ev) (.ref d)))):=fun b o e nb=>aT (aT ((sd.trans s6) _ _ e) (aw e hd)) nb;exact q _ m sl (.ref d) (fun b o e nb=>b7 _ _ (b4 _ _ (I _ _ e) nb) nb) ah (rn b7)
end
theorem uu{Y Z:Type}{F:Y->Z->Prop}{xs zs:List Y}{ys us:List Z}(h:aJ F xs ys)(z:aJ F zs us):aJ F (xs++zs) (ys++us):=by
 induction h with
 |nil=>exact z
 |cons x _ W=>exact .cons x W
theorem yq:fg "min"=some (.builtin "min"):=by decide +kernel
theorem DI{Ms:List MD}{r:RS}(mo:lW Ms){Z:Int}:∀{i:Nat},(∀j,j<i->ROk Ms.length (itR Ms r j).1/\gz (itR Ms r j).1 (Z-(itR Ms r j).2.length)=none)->(itR Ms r i).1.pd.length<=r.pd.length+5000*(itR Ms r i).2.length
 |0,_=>wJ _ _
 |i+1,h=>by
  have a:=DI mo (i:=i) fun j Y=>h j (by omega);have q:=h i (by omega);have b:=(tu (jk mo q.1 (eZ q.2).2.1)).1;show (d8 Ms (itR Ms r i).1).1.pd.length<=r.pd.length+5000*((itR Ms r i).2++(d8 Ms (itR Ms r i).1).2).length;rw[ax];omega
theorem ID{r:RS}{k k':Int}{e:End}(h:gz r k=some e)(c:e≠.cut\/k'<=0):∃e',gz r k'=some e':=by
 unfold gz at h |-
 split at h
 ·exact{_,rfl}
 ·split at h
  ·rename_i y
   rw[if_pos y];exact{_,rfl}
  ·rename_i y
   rw[if_neg y]
   split at h
   ·cases h
    rcases c with c|c
    ·exact absurd rfl c
    ·rw[if_pos c];exact{_,rfl}
   ·cases h
theorem KF{r:RS}{k:Int}(h:gz r k=some .cut):k<=0:=by
 unfold gz at h
 split at h
 ·cases h
 ·split at h
  ·cases h
  ·split at h
   ·assumption
   ·cases h
abbrev kx(H:Hp)(k co s p d rl:aa):Ex:={[k,co,s,p,d,rl],H}
theorem Md{H:Hp}{k co s p d rl a:aa}(h:a∈kx H k co s p d rl):(a=k\/a=co\/a=s\/a=p\/a=d\/a=rl)\/∃o,H a=some o/\∀xs,o≠.tup xs:=by
 rcases h with h|h
 ·have h:a∈[k,co,s,p,d,rl]:=h;exact .inl (by simpa using h)
 ·exact .inr h
theorem iC.kx{CC CS:aa}{Ms:List MD}{Hb G:Hp}{c m sl pl:aa}{r:RS}{ex:Ex}(h:iC CC CS Ms Hb {[c,sl,pl],Hb} G c m sl pl r)(n:∀a∈ex,∃o,Hb a=some o/\∀xs,o≠.tup xs):CoK CC CS m (Hid ex G) c r:=by
 obtain⟨dx,I,U,h1,h2,O⟩:=h.hc;obtain⟨J,H,Y⟩:=h.hs;obtain⟨ps,V,W⟩:=h.hp;have s:aY (Hid {[c,sl,pl],Hb} G) (Hid ex G):=fun a o e=>by
  have Z:a∉ex:=fun z=>by
   obtain⟨o',e',q⟩:=n a z;exact gO e (.inr ⟨o',e',q⟩)
  rw[eA Z];exact dh _ _ e
 have v:∀{a:aa} {o:HO},a∉ex->G a=some o->Hid ex G a=some o:=fun Z e=>by
  rw[eA Z];exact e
 have M:c∉ex:=fun z=>by
  obtain⟨o',e',_⟩:=n _ z;exact (h.sm _ _ e').1 rfl
 have ns:sl∉ex:=fun z=>by
  obtain⟨o',e',_⟩:=n _ z;exact (h.sm _ _ e').2.1 rfl
 have np:pl∉ex:=fun z=>by
  obtain⟨o',e',_⟩:=n _ z;exact (h.sm _ _ e').2.2.1 rfl
 exact{dx,sl,pl,I,U,J,ps,v M h1,h2.same s,O.same s,v ns H,Paired.mono (fun _ _ z=>jP.same' s z) Y,v np V,Paired.mono (fun _ _ z=>z.same s) W}
def qL(q:Nat)(ev:Int):List Key:=(jz (q+1)).map fun j=>Sum.inl ((j*ev.toNat:Nat):Int)
theorem IE{q:Nat}{ev:Int}:qL (q+1) ev=qL q ev++[Sum.inl (((q+1)*ev.toNat:Nat):Int)]:=by
 unfold qL;rw[List.range_succ,cu];rfl
theorem Mrk.stops{Ms:List MD}{es:List Ev}{n i:Nat}{r:RS}{k Z:Int}{e e':End}(m:Mrk Ms es n r)(s:jg Ms r k i e)(l:k<=Z-n)(d:gz (itR Ms r i).1 (Z-(n+(itR Ms r i).2.length:Nat))=some e')(hm:(n:Int)<Z):jg Ms (cI Ms es) Z (n+i) e'/\(itR Ms (cI Ms es) (n+i)).2=(itR Ms (cI Ms es) n).2++(itR Ms r i).2:=by
 have Y:=m.e;subst Y;have add:=mU Ms (cI Ms es) n;have len:∀d,(itR Ms (cI Ms es) (n+d)).2.length=n+(itR Ms (itR Ms (cI Ms es) n).1 d).2.length:=fun d=>by
  rw[add d];show ((itR Ms (cI Ms es) n).2++_).length=_;rw[ax,m.l n (ay _)]
 refine{{fun j W=>?_,?_,?_},by rw[add i]}
 ·by_cases c:j<n
  ·have q:=m.d j c;refine{q.1,lX q.2 ?_};rw[m.l j (by omega)];omega
  ·obtain⟨d,rfl⟩:∃d,j=n+d:={j-n,by omega};have q:=s.1 d (by omega);rw[len d,add d];exact{q.1,lX q.2 (by omega)}
 ·rw[len i,add i];exact d
 ·rw[add i];exact s.2.2
structure Kfx(H:Hp)(k co s p d rl:aa)(ex:Ex):Prop where
 ik:k∈ex
 id:d∈ex
 ir:rl∈ex
 nd:Wp k H d=none
 nr:Wp k H rl=none
 k1:co≠k
 k2:s≠k
 k3:p≠k
 d1:co≠d
 d2:s≠d
 d3:p≠d
 r1:co≠rl
 r2:s≠rl
 r3:p≠rl
 kd:k≠d
 kr:k≠rl
 dr:d≠rl
structure Krn(CK CC CS:aa)(Ms:List MD)(es:List Ev)(H:Hp)(k dx m sg co s p d rl:aa)(ev most:Int)(ex:Ex)(G:Hp)(r:RS)(rvs:List V)(kvs:List (Key×V)):Prop where
 c:iC CC CS Ms (Wp k H) ex G co m s p r
 qk:G k=some (.ins CK dx (kJ (.ref m) (.ref sg) (.int ev) (.ref d)))
 qd:G d=some (.dK kvs)
 qr:G rl=some (.lst rvs)
 kp:Kpt CC CS m Ms es (Hid (kx H k co s p d rl) G) kvs
 ku:∀q∈kvs,∀x:Int,q.1=Sum.inl x->x<=rvs.length
 kl:kvs.length<=rvs.length+1
 pd:r.pd.length<=64+5000*rvs.length
 le:(rvs.length:Int)<=most
theorem Krn.same{CK CC CS:aa}{Ms:List MD}{es:List Ev}{H:Hp}{k dx m sg co s p d rl:aa}{ev Z:Int}{ex:Ex}{G G':Hp}{r:RS}{Y:List V}{kvs:List (Key×V)}(s':aY G G')(h:Krn CK CC CS Ms es H k dx m sg co s p d rl ev Z ex G r Y kvs):Krn CK CC CS Ms es H k dx m sg co s p d rl ev Z ex G' r Y kvs:=
 {h.c.same s',s' _ _ h.qk,s' _ _ h.qd,s' _ _ h.qr,h.kp.same (gA s'),h.ku,h.kl,h.pd,h.le}
theorem Krn.kx{CK CC CS:aa}{Ms:List MD}{es:List Ev}{H:Hp}{k dx m sg co s p d rl:aa}{ev Z:Int}{ex:Ex}{G:Hp}{r:RS}{Y:List V}{kvs:List (Key×V)}(h:Krn CK CC CS Ms es H k dx m sg co s p d rl ev Z ex G r Y kvs):∀a∈My.kx H k co s p d rl,∃o,G a=some o/\∀xs,o≠.tup xs:=fun a ha=>by
 obtain⟨_,_,_,h1,_⟩:=h.c.hc;obtain⟨_,h2,_⟩:=h.c.hs;obtain⟨_,W,_⟩:=h.c.hp
 rcases Md ha with (rfl|rfl|rfl|rfl|rfl|rfl)|⟨o,e,nt⟩
 ·exact{_,h.qk,fun xs z=>by cases z}
 ·exact{_,h1,fun xs z=>by cases z}
 ·exact{_,h2,fun xs z=>by cases z}
 ·exact{_,W,fun xs z=>by cases z}
 ·exact{_,h.qd,fun xs z=>by cases z}
 ·exact{_,h.qr,fun xs z=>by cases z}
 ·by_cases c:a=k
  ·rw[c];exact{_,h.qk,fun xs z=>by cases z}
  ·exact{o,(h.c.sm a o (gQ e c)).2.2.2,nt}
section
variable{P:aK}{w:bD}{K:ae}{mg:Str->Option af}{base:cB}{f fCa fCp fE fR fBk CK CC CM CS CB:aa}{fd fdCa fdCp fdE fdR fdBk:bU}
seal PS PSs PE PA PT PW PI PG PGs PC
abbrev nKr:List Str:=["self","most","course","records","ending","told"]
abbrev pKr:List Str:=["self","most"]
theorem EY:bO nKr pKr (aN iS):={}
inductive Me(CK CC CM CS CB:aa)(vs:List V)(H:Hp)(Q:VK)(_e:XK):Prop where
 |mk(Ms:List MD)(es:List Ev)(k dx m sg:aa)(v:V)(ev most:Int)(_:vs=[.ref k,.int most])(_:H k=some (.ins CK dx (kJ (.ref m) (.ref sg) (.int ev) v)))(_:Rn CM Ms es (Wp k H) m sg)(_:1<=ev)(_:ev<=100)(_:0<=most)(_:most<=40)(_:∀(G:Hp) (b dxb rl kd:aa) (en sv:V) (rvs:List V) (kvs:List (Key×V)) (i:Nat) (e:End),jg Ms (cI Ms es) most i e->Hid ⟨[],H⟩ G rl=some (.lst rvs)->aJ (RcIn (Hid ⟨[],H⟩ G)) rvs (itR Ms (cI Ms es) i).2->j0 (Hid ⟨[],H⟩ G) en e->kvs.map (·.1)=qL (rvs.length/ev.toNat) ev->But k H G->G b=some (.ins CB dxb (HN (.ref rl) en sv))->G rl=some (.lst rvs)->rvs.length<=100->G k=some (.ins CK dx (kJ (.ref m) (.ref sg) (.int ev) (.ref kd)))->Hid ⟨[],H⟩ G kd=some (.dK kvs)->Kpt CC CS m Ms es (Hid ⟨[],H⟩ G) kvs->Q (.ref b) G):Me CK CC CM CS CB vs H Q _e
def KG(CK CC CM CS CB:aa):Sp:=fun vs H Q Z=>Me CK CC CM CS CB vs H Q Z
theorem Mf(F:Fun K "run" "Keeper.run" iS f fd)(mf:Df K mg "course_at_first" fv ["model","signs"] fCa fdCa)(kh:bC P w K mg base CX0 4 fCa fdCa ["model","signs"] (Dp CC CM CS))(nf:Mt K CC "copy" "Course.copy" gX pCc fCp fdCp)(lw:bC P w K mg base CX0 4 fCp fdCp pCc (Iw CC CS))(ME:Mt K CC "ending_due" "Course.ending_due" fK ["self","left"] fE fdE)(GE:bC P w K mg base CX0 1 fE fdE ["self","left"] (N3 CC CS))
  (DR:Df K mg "run_on" lN ["course","most"] fR fdR) (GR:bC P w K mg base CX0 39 fR fdR ["course","most"] (AF CC CM CS)) (MB:Mk K CB fBk) (bB:Binds K fdBk ["self","records","ending","states"] []) (GB:bC P w K mg base CX0 1 fBk fdBk ["self","records","ending","states"] (NW CB)) (T:KeT K mg CK) (TC:CoT K mg CC) (TB:BkT K mg CB) (B:Bl mg) (MM:mg "min"=none):bC P w K mg base CX0 40 f fd pKr (KG CK CC CM CS CB):=by
 refine F.ok EY (fun vs H Q E h=>?_) (fun he A outer s H vs Q E hr h=>?_)
 ·obtain⟨Ms,es,k,dx,m,sg,v,ev,W,rfl,_⟩:=h;rfl
 obtain⟨Ms,es,k,dx,m,sg,v,ev,W,rfl,hk,hR,e1,e2,hS,hK,q⟩:=h;have kt:=mC hr;have r1:cX 1 _:=hr.mono (by decide);have r2:cX 2 _:=hr.mono (by decide);have r4:cX 4 _:=hr.mono (by decide);have ix:cX 39 _:=hr;refine{_,aj (bE (i:=2) EY.nd rfl (Or.inl rfl) (aM kh r4 (by rfl) mf.m mf.F.kp mf.b .nil bh (aq (eE K (by rfl) (pv 0) (by rfl)) (aq (eE K (by rfl) (pv 0) (by rfl)) ai))))
  (aj (eP (pv 0) (Cp (Ab au (kj (pv 2) TC.cl nf.m lw r4 nf.b .nil bh) Co) rfl rfl (by simp) (by decide)) rfl)
  (aj (bE (i:=3) EY.nd rfl (Or.inl rfl) (eQ ai))
  (aj (bE (i:=4) EY.nd rfl (Or.inl rfl) (eT (pv 2) TC.cl ME.m GE r1 ME.b .nil bh (bf (pv 1) ai)))
  (aj (vR cY (pX (Fo (pv 4))) (aj (bE (i:=5) EY.nd rfl (Or.inl rfl) (aM GR ix (by rfl) DR.m DR.F.kp DR.b .nil bh (bf (pv 2) (iw (cO (xO rfl) (by rfl) MM yq (aq (eE K (by rfl) (pv 0) (by rfl)) (oA (cL jn (pv 1) (cO (eB K (by rfl)) (by rfl) B.len cb (bf (pv 3) ai))) ai))) ai))))
  (aj (eR (pz cD PySem.F.slot_list_extend PySem.F.type_list_extend El (pv 3) (qI (bR cv (pv 5) au (fun _ _=>rfl)) ai)))
  (aj (cW (bN fh (cO (eB K (by rfl)) (by rfl) B.len cb (qI (bR cv (pv 5) au (fun _ _=>rfl)) ai)) (eE K (by rfl) (pv 0) (by rfl)) (bY _)) (aD (mH kt (eE K (by rfl) (pv 0) (by rfl)) (cO (eB K (by rfl)) (by rfl) B.len cb (bf (pv 3) ai)) (kj (pv 2) TC.cl nf.m lw r4 nf.b .nil bh) rfl)) cj)
  (aD (bE (i:=4) EY.nd rfl (Or.inl rfl) (eT (pv 2) TC.cl ME.m GE r1 ME.b .nil bh (oA (cL jn (pv 1) (cO (eB K (by rfl)) (by rfl) B.len cb (bf (pv 3) ai))) ai))))))))
  (aD (bQ (iN MB GB r2 (by rfl) TB.m bB .nil bh (bf (pv 3) (bf (pv 4) (aq (eE K (by rfl) (pv 2) (by rfl)) ai)))))))))),?_}
 have big:=eD;have mo:=hR.mo.ok;obtain⟨ii,io,hO⟩:=hR.sg;have no:=o5 k H
 -- the course
 refine cy (cZ {_,rfl,k,CK,dx,_,_,rfl,hk,T.cl,T.nM,ke_m _ _ _ _,_,rfl,k,CK,dx,_,_,rfl,hk,T.cl,T.nS,ke_s _ _ _ _,Ms,m,sg,ii,es,rfl,hR.mo.same no,hR.lm,no _ _ io,Paired.mono (fun _ _ z=>z.same no) hO,hR.le,hR.ev,fun G1 co s' I C1=>bK ?_});dsimp only;have kn:H k≠none:=fun z=>by
  rw[hk]at z
  cases z
 have mt:∀b o,H b=some o->b≠co/\b≠s'/\b≠I/\G1 b=some o:=C1.sm;obtain⟨lj,lx,lc,mv⟩:=mt _ _ hk;have lM:k∈({[co,s',I],H}:Ex):=.inr {_,hk,fun xs z=>by cases z};have C1:=C1.weak no
 -- the first mark
 refine cy fun d hd=>?_;have sd:=aH hd (.dK []);have C2:=C1.more hd (o:=.dK []) (fun xs z=>by cases z);obtain⟨jl,hH,hD,kz,_⟩:=id C2.hc;refine{_,rfl,co,jl,_,rfl,kz,wV _ _ _ _ _ (by decide +kernel),Ms,co,m,_,rfl,C2.k,C2.rst,hR.lm,?_,fun G2 c0 gw hG mn=>?_}
 ·show (lV (oY es) []).length<=1000000;rw[(eG _ _).length_eq,cq,oz];have:=hR.le;omega
 have s2:aY (upd G1 d (.dK [])) G2:=fun a o e=>(mn.sm a o e).2.2.2;have ky:=s2 _ _ (kN hd (.dK []));refine{ky,[(Sum.inl 0,.ref c0)],rfl,(by show 1<=15;decide),?_};have mz:k≠d:=aw mv hd;have lF:=(sd.trans s2) _ _ mv;refine{_,rfl,k,CK,dx,_,rfl,aT lF mz,T.cl,T.nK,On _ _ _ _,?_};rw[KC];have Hd:H d=none:=by
  cases z:H d with
  |none=>rfl
  |some o=>
   rw[(mt _ _ z).2.2.2]at hd
   cases hd
 have nd:Wp k H d=none:=by
  unfold Wp;rw[if_neg mz.symm];exact Hd
 have md:d∈({[co,s',I],H}:Ex).add d:=Ex.here;have oL:co≠d/\s'≠d/\I≠d:=by
  obtain⟨_,_,_,y1,_⟩:=C1.hc;obtain⟨_,y2,_⟩:=C1.hs;obtain⟨_,y3,_⟩:=C1.hp;exact{aw y1 hd,aw y2 hd,aw y3 hd}
 have wk0:Wp k H k=none:=by
  unfold Wp;rw[if_pos rfl]
 have C3:=((C2.same s2).upd (a:=d) (o:=.dK (lI [] [(Sum.inl 0,.ref c0)])) md nd oL.1 oL.2.1 oL.2.2 (fun xs z=>by cases z)).upd (a:=k) (o:=.ins CK dx (kJ (.ref m) (.ref sg) (.int ev) (.ref d))) (Ex.more lM) wk0 lj.symm lx.symm lc.symm (fun xs z=>by cases z);have oD:=(ah:upd (upd G2 d (.dK (lI [] [(Sum.inl 0,.ref c0)]))) k (.ins CK dx (kJ (.ref m) (.ref sg) (.int ev) (.ref d))) k=_);have oi:upd (upd G2 d (.dK (lI [] [(Sum.inl 0,.ref c0)]))) k (.ins CK dx (kJ (.ref m) (.ref sg) (.int ev) (.ref d))) d=some (.dK [(Sum.inl 0,.ref c0)]):=aT ah mz.symm;have K0:∀{ex':Ex} (_:∀a∈ex',a≠k->a≠d->∃o,upd G1 d (.dK []) a=some o/\∀xs,o≠.tup xs) (_:k∈ex') (_:d∈ex'),CoK CC CS m (Hid ex' (upd (upd G2 d (.dK (lI [] [(Sum.inl 0,.ref c0)]))) k (.ins CK dx (kJ (.ref m) (.ref sg) (.int ev) (.ref d))))) c0 (cI Ms es):=fun hx ik id=>by
  rw[gW ik,gW id];refine mn.kx fun a ha=>?_
  by_cases c1:a=k
  ·rw[c1];exact{_,sd _ _ mv,fun xs z=>by cases z}
  ·by_cases c2:a=d
   ·rw[c2];exact{_,kN hd _,fun xs z=>by cases z}
   ·exact hx a ha c1 c2
 have K1:=K0 (ex':={[k,co,s',I,d],H}) (fun a ha c1 c2=>by
  obtain⟨_,_,_,y1,_⟩:=C2.hc;obtain⟨_,y2,_⟩:=C2.hs;obtain⟨_,y3,_⟩:=C2.hp
  rcases ha with ha|⟨o,e,nt⟩
  ·have ha:a∈[k,co,s',I,d]:=ha;simp only[ar,aV,or_false]at ha
   rcases ha with ha|rfl|rfl|rfl|ha
   ·exact absurd ha c1
   ·exact{_,y1,fun xs z=>by cases z}
   ·exact{_,y2,fun xs z=>by cases z}
   ·exact{_,y3,fun xs z=>by cases z}
   ·exact absurd ha c2
  ·exact{o,sd _ _ (mt _ _ e).2.2.2,nt}) (.inl (by simp)) (.inl (by simp))
 revert C3 oD oi K1;clear K0;generalize upd (upd G2 d (.dK (lI [] [(Sum.inl 0,.ref c0)]))) k (.ins CK dx (kJ (.ref m) (.ref sg) (.int ev) (.ref d)))=G3;intro C3 oD oi K1
 -- the records
 dsimp only;refine cy (cZ {bV _,fun rl J=>bK ?_});dsimp only;have sr:=aH J (.lst []);have C4:=C3.more J (o:=.lst []) (fun xs z=>by cases z);have ml:co≠rl/\s'≠rl/\I≠rl:=by
  obtain⟨_,_,_,y1,_⟩:=C3.hc;obtain⟨_,y2,_⟩:=C3.hs;obtain⟨_,y3,_⟩:=C3.hp;exact{aw y1 J,aw y2 J,aw y3 J}
 have nr:Wp k H rl=none:=by
  cases z:Wp k H rl with
  |none=>rfl
  |some o=>
   rw[(C3.sm _ _ z).2.2.2]at J
   cases J
 have O:Kfx H k co s' I d rl ((({[co,s',I],H}:Ex).add d).add rl):={Ex.more (Ex.more lM),Ex.more md,Ex.here,nd,nr,lj.symm,lx.symm,lc.symm,oL.1,oL.2.1,oL.2.2,ml.1,ml.2.1,ml.2.2,mz,aw oD J,aw oi J};have mr:=mrk_0 Ms es;have R4:Krn CK CC CS Ms es H k dx m sg co s' I d rl ev W ((({[co,s',I],H}:Ex).add d).add rl) (upd G3 rl (.lst [])) (cI Ms es) [] [(Sum.inl 0,.ref c0)]:=by
  refine{C4,sr _ _ oD,sr _ _ oi,ah,{fun x hx=>?_,cK.mpr {(fun z=>by cases z),iX},by show 1<=50;decide},fun x hx y e=>?_,ay _,?_,hS}
  ·rw[aA.mp hx];refine{0,c0,cI Ms es,rfl,K1.same fun a o e=>?_,C4.rst,mr,?_}
   ·have ha:=dh _ _ e;have ne:=aw ha J;rw[eA fun z=>?_]
    ·exact aT ha ne
    ·rcases Md z with z|z
     case inr=>exact gO e (.inr z)
     refine gO e (.inl ?_);show a∈[k,co,s',I,d];simp only[ar,aV,or_false]
     rcases z with z|z|z|z|z|z
     ·exact .inl z
     ·exact .inr (.inl z)
     ·exact .inr (.inr (.inl z))
     ·exact .inr (.inr (.inr (.inl z)))
     ·exact .inr (.inr (.inr (.inr z)))
     ·exact absurd z ne
   ·show (lV (oY es) []).length<=900000;rw[(eG _ _).length_eq,cq,oz];have:=hR.le;omega
  ·rw[aA.mp hx]at e
   cases e;exact xk _
  ·show (lV (oY es) []).length<=64+5000*0;rw[(eG _ _).length_eq,cq,oz];have:=hR.le;omega
 revert R4;have old:∀{a:aa},(∃o,H a=some o/\∀xs,o≠.tup xs)->a∈((({[co,s',I],H}:Ex).add d).add rl):=fun z=>Ex.more (Ex.more (.inr z));generalize ((({[co,s',I],H}:Ex).add d).add rl)=ex at O old;generalize upd G3 rl (.lst [])=G4;intro R4;clear C4 C3 K1 sr J oD oi C2 mn ky s2 kz lF sd
 -- its ending
 have gM:=R4.c;obtain⟨il,hg,gt,iv,_⟩:=id R4.c.hc;refine cy (cZ {_,rfl,co,il,_,rfl,iv,wV _ _ _ _ _ (by decide +kernel),_,rfl,Ms,Wp k H,ex,co,m,s',I,_,W,rfl,R4.c,fun en G5 s5 hT=>bK ?_});dsimp only;have R5:=R4.same s5;have rm:∀{rr:RS} {ll:Int} {v:V} {G:Hp},((gz rr ll=none/\v=.non)\/∃e,gz rr ll=some e/\j0 (Hid ex G) v e)->(gz rr ll=none/\v=.non)\/(v≠.non/\∃e,gz rr ll=some e/\j0 (Hid ex G) v e):=fun h=>by
  rcases h with h|⟨e,d,h⟩
  ·exact .inl h
  ·refine .inr {fun z=>?_,e,d,h};subst z
   cases e with
   |empty=>
    obtain⟨t,e',_⟩:=h
    cases e'
   |cut=>
    obtain⟨t,e',_⟩:=h
    cases e'
   |stp st=>
    cases st with
    |fin x=>
     obtain⟨t,kk,e',_⟩:=h
     cases e'
    |flt y x=>
     obtain⟨t,kk,e',_⟩:=h
     cases e'
 refine vh (fun mu G=>∃(r:RS) (en:V) (u5:Option V) (Z:List V) (kvs:List (Key×V)),mu=[some (.ref k),some (.int W),some (.ref co),some (.ref rl),some en,u5]/\Krn CK CC CS Ms es H k dx m sg co s' I d rl ev W ex G r Z kvs/\kvs.map (·.1)=qL (Z.length/ev.toNat) ev/\(∃(i:Nat) (e:End),jg Ms (cI Ms es) W i e/\aJ (RcIn (Hid ex G)) Z (itR Ms (cI Ms es) i).2/\j0 (Hid ex G) en e)) ?_ ?_
 rotate_left
 ·intro N hN;refine{fun mm σ G=>∃(r:RS) (en:V) (u5:Option V) (Z:List V) (kvs:List (Key×V)),σ=[some (.ref k),some (.int W),some (.ref co),some (.ref rl),some en,u5]/\Krn CK CC CS Ms es H k dx m sg co s' I d rl ev W ex G r Z kvs/\kvs.map (·.1)=qL (Z.length/ev.toNat) ev/\((en=.non/\gz r (W-Z.length)=none/\Mrk Ms es Z.length r/\aJ (RcIn (Hid ex G)) Z (itR Ms (cI Ms es) Z.length).2/\ev.toNat ∣ Z.length/\mm=(W-Z.length).toNat+1)\/(en≠.non/\(∃(i:Nat) (e:End),jg Ms (cI Ms es) W i e/\aJ (RcIn (Hid ex G)) Z (itR Ms (cI Ms es) i).2/\j0 (Hid ex G) en e)/\mm=0)),?_,?_}
  ·have lz:([(Sum.inl 0,V.ref c0)]:List (Key×V)).map (·.1)=qL (([]:List V).length/ev.toNat) ev:=by
    rw[cw,Nat.zero_div];unfold qL;show [Sum.inl 0]=[Sum.inl ((0*ev.toNat:Nat):Int)];rw[Nat.zero_mul];rfl
   rcases rm hT with⟨h1,h2⟩|⟨h,e0,d0,z0⟩
   ·exact{_,_,_,_,_,_,rfl,R5,lz,.inl {h2,by rw[show W-(([]:List V).length:Int)=W from Int.sub_zero _];exact h1,mr,.nil,Nat.dvd_zero _,rfl}}
   ·exact{_,_,_,_,_,_,rfl,R5,lz,.inr {h,{0,e0,{fun j hj=>absurd hj (gD _),by rw[show W-((itR Ms (cI Ms es) 0).2.length:Int)=W from Int.sub_zero _];exact d0,R5.c.ok},.nil,z0},rfl}}
  ·rintro mm σ G ⟨r,en,u5,Z,kvs,rfl,D,oT,hw⟩;refine{_,rfl,_,rfl,?_}
   rcases hw with⟨rfl,kv,mk,ih,hY,rfl⟩|⟨ne,ki,rfl⟩
   ·refine iA ?_;refine{_,fun _ _ h=>h,?_};have ke:=(eZ kv).2.2;obtain⟨kk,kw,k1,k2,k3,k4⟩:∃kk:Int,(if W-(Z.length:Int)<ev then W-(Z.length:Int) else ev)=kk/\0<kk/\kk<=ev/\kk<=W-Z.length/\(kk=ev\/kk=W-Z.length):=by
     by_cases c:W-(Z.length:Int)<ev
     ·exact{_,if_pos c,by omega,by omega,by omega,.inr rfl}
     ·exact{_,if_neg c,by omega,by omega,by omega,.inl rfl}
    refine cy (cZ {_,rfl,_,rfl,k,CK,dx,_,_,rfl,D.qk,T.cl,T.nE,ke_e _ _ _ _,_,rfl,_,rfl,rl,_,rfl,.inl (SqL.of D.qr),_,_,rfl,rfl,ev,W-Z.length,rfl,?_});rw[kw];have hf:=D.pd;have hF:=D.le;refine{Ms,Wp k H,ex,co,m,s',I,r,kk,rfl,hR.mo,D.c,by omega,by omega,fun G2 t i e R=>bK ?_};dsimp only;obtain⟨pb,la,Y,g1,g2,_,g3,_⟩:=R.rs;have l2:=aO g3;have few:=oB mo R.st (by omega);have hI:=DI mo R.st.1;have nz:=R.ot;have lf:=nz _ O.k1.symm O.k2.symm O.k3.symm _ D.qk;have ls:=nz _ O.d1.symm O.d2.symm O.d3.symm _ D.qd;have nc:=nz _ O.r1.symm O.r2.symm O.r3.symm _ D.qr;have hP:pb≠rl:=fun z=>gO g2 (z ▸ O.ir);have lr:Kpt CC CS m Ms es (Hid (kx H k co s' I d rl) G2) kvs:=D.kp.same fun a o e=>by
     have na:=gO e;rw[eA na];have ni:∀{b:aa},b∈[k,co,s',I,d,rl]->a≠b:=fun hb z=>na (.inl (by rw[z];exact hb));exact nz a (ni (by simp)) (ni (by simp)) (ni (by simp)) o (dh _ _ e)
    have mW:G2 t=some (.tup [.ref pb,la]):=dh _ _ g1;have kB:G2 pb=some (.lst Y):=dh _ _ g2;refine cy {_,rfl,.inl {rfl,_,SqL.of nc},_,rfl,t,_,_,_,rfl,rfl,SqT.of mW,rfl,rl,pb,Z,Y,rfl,rfl,nc,kB,by omega,?_};have C3:=R.cc.upd (a:=rl) (o:=.lst (Z++Y)) O.ir O.nr O.r1 O.r2 O.r3 (fun xs z=>by cases z);have U:(Z++Y).length=Z.length+Y.length:=ax;have R3:Krn CK CC CS Ms es H k dx m sg co s' I d rl ev W ex (upd G2 rl (.lst (Z++Y))) (itR Ms r i).1 (Z++Y) kvs:=by
     refine{C3,aT lf O.kr,aT ls O.dr,ah,?_,fun q hq x e=>?_,?_,?_,?_}
     ·rw[gW (.inl (by simp))];exact lr
     ·have:=D.ku q hq x e;rw[U];omega
     ·have:=D.kl;rw[U];omega
     ·rw[U];omega
     ·rw[U];omega
    have pa:aJ (RcIn (Hid ex (upd G2 rl (.lst (Z++Y))))) (Z++Y) ((itR Ms (cI Ms es) Z.length).2++(itR Ms r i).2):=by
     rw[gW O.ir];exact uu (Paired.mono (fun _ _ z=>z.same R.sm) ih) g3
    have oc:upd G2 rl (.lst (Z++Y)) t=some (.tup [.ref pb,la]):=aT mW (fun z=>by
     rw[z,nc]at mW
     cases mW)
    have mq:upd G2 rl (.lst (Z++Y)) pb=some (.lst Y):=aT kB hP;revert R3 pa oc mq;clear C3 lf ls nc lr;generalize upd G2 rl (.lst (Z++Y))=G3;intro R3 pa oc mq;dsimp only;obtain⟨qn,nh⟩:=hY;have ly:0<ev.toNat:=by omega
    have qd:Z.length/ev.toNat=qn:=by rw[nh];exact Nat.mul_div_cancel_left _ ly
    rw[qd]at oT;refine vh (fun mu G'=>mu=[some (.ref k),some (.int W),some (.ref co),some (.ref rl),some .non,some (.ref t)]/\∃ow,Krn CK CC CS Ms es H k dx m sg co s' I d rl ev W ex G' (itR Ms r i).1 (Z++Y) ow/\aJ (RcIn (Hid ex G')) (Z++Y) ((itR Ms (cI Ms es) Z.length).2++(itR Ms r i).2)/\ow.map (·.1)=qL ((Z++Y).length/ev.toNat) ev/\((Mrk Ms es (Z++Y).length (itR Ms r i).1/\(itR Ms (cI Ms es) (Z++Y).length).2=(itR Ms (cI Ms es) Z.length).2++(itR Ms r i).2/\0<Y.length/\ev.toNat ∣ (Z++Y).length)\/∃e',gz (itR Ms r i).1 (W-(Z++Y).length)=some e')) ?_ ?_
    rotate_left
    ·intro N' ln;refine iz {_,rfl,t,_,_,_,rfl,rfl,SqT.of oc,rfl,pb,Y,rfl,.inl (SqL.of mq),_,rfl,k,CK,dx,_,_,rfl,R3.qk,T.cl,T.nE,ke_e _ _ _ _,rfl,_,rfl,gH (fun c=>?_) (fun c=>?_)}
     ·have c:(Y.length:Int)=ev:=V.int.inj (of_decide_eq_true c);have full:((itR Ms r i).2.length:Int)=kk:=by omega
      obtain⟨mk',ik⟩:=mk.full mo R.st full;have ei:Z.length+i=(Z++Y).length:=by rw[U];omega
      rw[ei]at mk';have ov:(itR Ms (cI Ms es) (Z++Y).length).2=(itR Ms (cI Ms es) Z.length).2++(itR Ms r i).2:=by
       rw[<- ei,mU,<- mk.e]
      have nl:(Z++Y).length=(qn+1)*ev.toNat:=by
       rw[U,nh,vi,B1];omega
      obtain⟨oe,mb,kI,nT,_⟩:=id R3.c.hc;have hy:=R3.pd;have hC:=R3.le;refine{_,rfl,co,oe,_,rfl,nT,wV _ _ _ _ _ (by decide +kernel),Ms,co,m,_,rfl,R3.c.k,R3.c.rst,hR.lm,by omega,fun lv c1 hz hB kG=>?_};have s4:aY G3 lv:=fun a o e=>(kG.sm a o e).2.2.2;have M:=R3.same s4;have lR:(Sum.inl ((Z++Y).length:Int):Key)∉kvs.map (·.1):=fun z=>by
       obtain⟨x,hx,e⟩:=cH.mp z;have:=D.ku x hx _ e;rw[U]at this;omega
      have fk:kvs.length<aB:=by
       have:=D.kp.few;omega
      have dp:=tV.k (k:=Sum.inl ((Z++Y).length:Int)) (v:=.ref c1) M.qd fk;rw[IB lR]at dp;refine{_,rfl,k,CK,dx,_,_,rfl,M.qk,T.cl,T.nK,Om _ _ _ _,_,rfl,rl,_,rfl,.inl (SqL.of M.qr),d,_,rfl,dp,ln _ _ {rfl,kvs++[(Sum.inl ((Z++Y).length:Int),.ref c1)],?_,?_,?_,.inl {mk',ov,by omega,{qn+1,by rw[nl,vi]}}}}
      rotate_left
      ·rw[gW O.id];exact Paired.mono (fun _ _ z=>z.same (gA s4)) pa
      ·rw[cu,oT,nl,Nat.mul_div_cancel _ ly,IE];rfl
      refine{M.c.upd (a:=d) O.id O.nd O.d1 O.d2 O.d3 (fun xs z=>by cases z),aT M.qk O.kd,ah,aT M.qr O.dr.symm,{fun q hq=>?_,?_,?_},fun q hq x e=>?_,?_,M.pd,M.le}
      ·rw[gW (.inl (by simp))]
       rcases bM.mp hq with z|z
       ·exact M.kp.at_ q z
       ·rw[aA.mp z];exact{(Z++Y).length,c1,_,rfl,kG.kx R3.kx,R3.c.rst,mk',by omega}
      ·rw[cu];exact yQ D.kp.nd lR
      ·rw[ax];show kvs.length+1<=50;have:=D.kl;omega
      ·rcases bM.mp hq with z|z
       ·have:=D.ku q z x e;rw[U];omega
       ·rw[aA.mp z]at e
        cases e;exact xk _
      ·rw[ax];show kvs.length+1<=_;have:=D.kl;rw[U];omega
     ·have c:(Y.length:Int)≠ev:=fun z=>c (by rw[z];exact decide_eq_true rfl);refine ln _ _ {rfl,kvs,R3,pa,?_,.inr ?_}
      ·have:(Z++Y).length/ev.toNat=qn:=Nat.div_eq_of_lt_le (by rw[U,nh,vi];omega) (by rw[U,nh,vi,B1];omega);rw[this];exact oT
      refine ID R.st.2.1 ?_
      by_cases ce:e=.cut
      ·right
       have z:=R.st.2.1;rw[ce]at z;have:=KF z;rw[U];omega
      ·exact .inl ce
    rintro _ lv ⟨rfl,ow,M,lA,my,hQ⟩;obtain⟨oe,mb,kI,nT,_⟩:=id M.c.hc;refine cZ {_,rfl,co,oe,_,rfl,nT,wV _ _ _ _ _ (by decide +kernel),_,rfl,_,rfl,rl,_,rfl,.inl (SqL.of M.qr),_,_,rfl,rfl,Ms,Wp k H,ex,co,m,s',I,_,W-(Z++Y).length,rfl,M.c,fun hE G6 s6 lp=>bK ?_};dsimp only;have R6:=M.same s6;have mx:=Paired.mono (fun _ _ z=>RcIn.same (gA (ex:=ex) s6) z) lA
    rcases rm lp with⟨h1,rfl⟩|⟨h,e6,d6,z6⟩
    ·rcases hQ with⟨mk',ov,pos,dv⟩|⟨e',y⟩
     ·have hn:=R6.le;exact{(W-((Z++Y).length:Int)).toNat+1,by rw[U];omega,_,_,_,_,_,rfl,R6,my,.inl {rfl,h1,mk',by rw[ov];exact mx,dv,rfl}}
     ·rw[h1]at y
      cases y
    ·rw[U,l2]at d6;obtain⟨ka,im⟩:=mk.stops R.st k3 d6 (by omega);exact{0,by omega,_,_,_,_,_,rfl,R6,my,.inr {h,{_,e6,ka,by rw[im];exact mx,z6},rfl}}
   ·rw[decide_eq_false ne];exact gu (hN _ _ {_,_,_,_,_,rfl,D,oT,ki})
 rintro _ G ⟨r,en,u5,Z,kvs,rfl,D,oT,⟨iF,eF,hL,kc,hX⟩⟩;obtain⟨oe,mb,kI,nT,_⟩:=id D.c.hc;refine gk (uh ?_);refine{_,rfl,_,rfl,_,rfl,co,CC,oe,_,_,rfl,nT,TC.cl,TC.nS,HV _ _ _ _ _,fun b mc hb jp nb=>{b,mc,_,_,_,rfl,ah,fun G' ip but=>{rfl,?_}}};have lk:aY G G':=fun a o e=>but _ _ (aT (aT e (aw e jp)) (aw e hb)) (aw e hb);have g:=D.same lk;have hA:=g.le;have jq:H d=none:=by
  have:=O.nd;unfold Wp at this;rw[if_neg O.kd.symm]at this;exact this
 have js:H rl=none:=by
  have:=O.nr;unfold Wp at this;rw[if_neg O.kr.symm]at this;exact this
 have sF:aY (Hid ex G) (Hid {[],H} G'):=fun a o e=>by
  rw[eA fun z=>?_]
  ·exact lk _ _ (dh _ _ e)
  ·rcases z with z|z
   ·cases z
   ·exact gO e (old z)
 refine q G' b mc rl d en (.ref s') Z kvs iF eF hL (by rw[eA (iU js)];exact g.qr) (Paired.mono (fun _ _ z=>z.same sF) kc) (hX.same sF) oT (fun a o e na=>(g.c.sm a o (gQ e na)).2.2.2) ip g.qr (by omega) g.qk (by rw[eA (iU jq)];exact g.qd) (g.kp.same fun a o e=>?_);rw[eA fun z=>?_]
 ·exact dh _ _ e
 ·rcases z with z|z
  ·cases z
  ·exact gO e (.inr z)
end
end My
namespace HT
open PySem PyProof.Rows
open PySem.SeqAt
open PySem.AutoSeq1 (wpAny_loadPart')
open PySem.MeetsSeq PySem.MeetsSeq2 PySem.MeetsSeq3
theorem KH(l b:aa)(xs ys:Array af)(n m:Nat)(dd de:Option aa)(sl sm:Array (Option af))(ns ms:List Int)(hi:dZ xs.toList ns)(hj:dZ ys.toList ms) :
  Meets (iE.«tuple.__le__» {[.ref l,.ref b],[]})
   (fun _ R s=>s.heap.get? l=some {cls:=.type "tuple",dict:=dd,data:=.seq xs n,slots:=sl}/\s.heap.get? b=some {cls:=.type "tuple",dict:=de,data:=.seq ys m,slots:=sm}/\R (.ok (.ret (.bool (!lexLt ms ns)))) s):=
 .of_wp fun prog w A R s h=>by
  obtain⟨hp,g,d,tk,os⟩:=s;obtain⟨hl,hb,h⟩:=h;have f2:=ja;have z1:xs.size=ns.length:=by rw[<- hi.length];simp
  have z2:ys.size=ms.length:=by rw[<- hj.length];simp
  wp_walk using dy hl,dy hb,lH _ (fun rest b s'=>b.1=none/\s'=⟨hp,g,d,tk,os⟩/\∃(vs H:List af) (W Y:List Int),rest=vs.zip H /\
   dZ vs W/\dZ H Y/\W.length+ys.size=Y.length+xs.size/\R (.ok (.ret (.bool (!lexLt Y W)))) ⟨hp,g,d,tk,os⟩) _
  case turn=>
   rintro⟨y,x⟩ rest b s' ⟨M,rfl,vs,H,W,Y,U,hv,hw,Z,O⟩
   cases hv with
   |nil=>rw[uB]at U;cases U
   |cons a t hv=>
    cases hw with
    |nil=>rw[tG]at U;cases U
    |cons c u hw=>
     rw[e7]at U;injection U with bI J;injection bI with hy hx;subst hy hx;rw[lexLt_cons]at O;simp only[aR]at Z;obtain⟨e,he,V⟩:=vZ A.in1 ⟨hp,g,d,tk,os⟩ a t c u;refine ao (he prog w _ _ ?_)
     cases e with
     |true=>
      rw[if_pos (V.mp rfl).symm]at O
      wp_walk
      exact{rfl,rfl,_,_,_,_,J,hv,hw,by omega,O}
     |false=>
      rw[if_neg (fun q=>absurd (V.mpr q.symm) bL)]at O;have bP:∀(E:af->ak->Prop) (Q:af->ak->Prop),Q (.bool (decide (a<=c))) ⟨hp,g,d,tk,os⟩->aW (aZ prog w) A.in1 (pT .LtE (.int a t) (.int c u)) Q E ⟨hp,g,d,tk,os⟩:=fun E Q q=>
       (PyProof.Rows.le_int q:aW (aZ prog w) A.in1 (cN .LtE (.int a t) (.int c u)) Q E _)
      wp_walk using bP
      have ca:a≠c:=fun q=>absurd (V.mpr q) bL;have hd:(!decide (c<a))=decide (a<=c):=by
       by_cases z:c<a
       ·rw[decide_eq_true z,decide_eq_false (by omega)];rfl
       ·rw[decide_eq_false z,decide_eq_true (by omega)];rfl
      rw[hd]at O;exact{_,rfl,O}
  case fin=>
   rintro⟨b1,b2⟩ s' ⟨M,rfl,vs,H,W,Y,U,D,I,Z,O⟩;simp only at M;subst M;have hv:lexLt Y W=decide (ys.size<xs.size):=by
    cases D with
    |nil=>
     cases I with
     |nil=>
      simp only[cw]at Z;rw[mZ];exact (decide_eq_false (by omega)).symm
     |cons c u hw=>
      simp only[cw,aR]at Z;rw[lG];exact (decide_eq_false (by omega)).symm
    |cons a t hv=>
     cases I with
     |nil=>
      simp only[cw,aR]at Z;rw[lE];exact (decide_eq_true (by omega)).symm
     |cons c u hw=>
      rw[e7]at U
      cases U
   have hd:(!decide (ys.size<xs.size))=decide (xs.size<=ys.size):=by
    by_cases z:ys.size<xs.size
    ·rw[decide_eq_true z,decide_eq_false (by omega)];rfl
    ·rw[decide_eq_false z,decide_eq_true (by omega)];rfl
   rw[hv,hd]at O
   wp_walk
   exact{_,rfl,by simpa[jr] using O}
  case h=>
   exact{rfl,rfl,xs.toList,ys.toList,ns,ms,rfl,hi,hj,by omega,h}
theorem le_tup{prog:aK}{w:bD}{A:bX}{E:af->ak->Prop}{s:ak}{l b:aa}{xs ys:Array af}{ns ms:List Int}{Q:af->ak->Prop}(hl:qX s.heap l xs)(hb:qX s.heap b ys)(hi:dZ xs.toList ns)(W:dZ ys.toList ms)
  (hu:A.units<dY) (h:Q (.bool (!lexLt ms ns)) s):aW (aZ prog w) A (cN .LtE (.ref l) (.ref b)) Q E s:=by
 obtain⟨⟨c1,dd,t1,sl⟩,Y,rfl,n,rfl⟩:=id hl;obtain⟨⟨c2,V,U,sm⟩,Z,rfl,m,rfl⟩:=id hb;exact kL (op:=.LtE) {_,Y,rfl} {_,Z,rfl} PySem.F.slot_tuple_le PySem.F.entry_tuple_le (PySem.F.args_tuple_le_2 _ _) (KH l b xs ys n m dd V sl sm ns ms hi W)
  {Y,Z,show Value.bool (!lexLt ms ns)≠Value.notImplemented/\Q (.bool (!lexLt ms ns)) s from{(fun x=>nomatch x),h}} hu
end HT
namespace L2
open PySem PySem.Spec PyProof.Rows
section
variable{X:Cx}
theorem Ot(hu:X.A.units<dY):OpR X (cN .LtE) (fun x y H Q=>∃a b ns ms,x=.ref a/\y=.ref b/\H a=some (.tup (ns.map V.int))/\H b=some (.tup (ms.map V.int))/\Q (.bl (!HT.lexLt ms ns)) H):=by
 intro pins s σ H x y v u Q I U W h;obtain⟨a,b,ns,ms,rfl,rfl,ha,hb,q⟩:=h
 cases U
 cases W;obtain⟨Y,r1,O,_⟩:=I.tuple (SqT.of ha);obtain⟨Z,r2,p2,_⟩:=I.tuple (SqT.of hb);have i1:dZ Y.toArray.toList ns:=intsAre_of r1;have i2:dZ Z.toArray.toList ms:=intsAre_of r2;exact HT.le_tup O p2 i1 i2 hu {.bl (!HT.lexLt ms ns),H,I,rfl,q}
end
end L2
namespace My
open PySem L2
theorem Ou{CC CS:aa}{Ms:List MD}{Hb G:Hp}{ex:Ex}{co m sl pl:aa}{r:RS}(c:iC CC CS Ms Hb ex G co m sl pl r){x:Ev}{Z:List V}(hp:aJ (hZ (Hid ex G)) Z (jQ x r.pd))(ok:ROk Ms.length (wit x r)):iC CC CS Ms Hb ex (upd G pl (.lst Z)) co m sl pl (wit x r):=by
 obtain⟨dx,M,W,h1,h2,U⟩:=c.hc;obtain⟨O,J,Y⟩:=c.hs;have hu:Hid ex (upd G pl (.lst Z))=Hid ex G:=gW c.i3;refine{ok,fun b o e=>?_,c.i1,c.i2,c.i3,c.n1,c.n2,c.n3,{dx,M,W,aT h1 c.n2,?_,?_},{O,aT J c.n3,?_},{Z,ah,?_},c.wk,fun a ha=>?_}
 ·obtain⟨a1,a2,a3,a4⟩:=c.sm b o e;exact{a1,a2,a3,aT a4 a3}
 ·rw[hu];exact h2
 ·rw[hu];exact U
 ·rw[hu];exact Y
 ·rw[hu];exact hp
 ·by_cases z:a=pl
  ·rw[z];exact{_,ah,fun xs y=>by cases y}
  ·obtain⟨o,e,n⟩:=c.nt a ha;exact{o,aT e z,n}
theorem IF{xs:List V}{n:Nat}(h:n+1=xs.length):atI xs (-1)=some (xs[n]'(by omega)):=by
 unfold atI ixN;rw[if_neg (by decide),if_pos (by omega)];show xs[((-1:Int)+xs.length).toNat]?=_;rw[show ((-1:Int)+xs.length).toNat=n by omega,aE (by omega)]
section
variable{P:aK}{w:bD}{K:ae}{mg:Str->Option af}{base:cB}{f fCf fPf fPu fR CK CC CM CS CN CL:aa}{fd fdCf fdPf fdPu fdR:bU}
seal PS PSs PE PA PT PW PI PG PGs PC
abbrev nFk:List Str:=["keeper","number","sign","most","course","happening"]
abbrev pFk:List Str:=["keeper","number","sign","most"]
theorem Ov:bO nFk pFk (aN wG):={}
inductive Mg(CK CC CM CS:aa)(vs:List V)(H:Hp)(Q:VK)(_e:XK):Prop where
 |mk(Ms:List MD)(es:List Ev)(k m sl kd:aa)(ev n most:Int)(kvs:List (Key×V))(sv:V)(x:Ev)(_:vs=[.ref k,.int n,sv,.int most])(_:xC CK CC CM CS Ms es H k m sl kd ev kvs)(_:pO H sv x)(_:q8 Ms.length x)(_:most<=1000)(_:n∈rQ kvs)(_:(∀(nn:Nat) r,n=nn->Mrk Ms es nn r->zx r (atP x es.length)))(_:∀(G:Hp) (t rl:aa) (en:V) (rvs:List V) (nn i:Nat) (r:RS) (e:End),n=nn->Mrk Ms es nn r->jg Ms (wit (atP x es.length) r) most i e->aY H G->G t=some (.tup [.ref rl,en])->G rl=some (.lst rvs)->H rl=none->aJ (RcIn G) rvs (itR Ms (wit (atP x es.length) r) i).2->j0 G en e->Q (.ref t) G):Mg CK CC CM CS vs H Q _e
def spFk(CK CC CM CS:aa):Sp:=fun vs H Q Z=>Mg CK CC CM CS vs H Q Z
theorem ok_fk(D:Df K mg "fork" wG pFk f fd)(ew:Mt K CK "course_from" "Keeper.course_from" eY pKc fCf fdCf)(eh:bC P w K mg base (CXo P w) 5 fCf fdCf pKc (Oo CK CC CM CS CN))(J:Df K mg "pending_at_first" gi ["signs"] fPf fdPf)(ee:bC P w K mg base CX0 1 fPf fdPf ["signs"] HM)(M:Df K mg "put_in" qj ["falling","thing"] fPu fdPu)(ef:bC P w K mg base CX0 2 fPu fdPu ["falling","thing"] AD)(DR:Df K mg "run_on" lN ["course","most"] fR fdR)(GR:bC P w K mg base CX0 39 fR fdR ["course","most"] (AF CC CM CS))(T:KeT K mg CK)(TC:CoT K mg CC)(mL:mg "TooLate"=some (.ref CL))(xL:cR K CL oN "ValueError.__new__"=true):bC P w K mg base (CXo P w) 40 f fd pFk (spFk CK CC CM CS):=by
 refine D.F.okX Ov (fun vs H Q E h=>?_) (fun ep A outer s H vs Q E hr h=>?_)
 ·obtain⟨Ms,es,k,m,sl,kd,ev,n,Y,kvs,sv,x,rfl,_⟩:=h;rfl
 obtain⟨Ms,es,k,m,sl,kd,ev,n,Y,kvs,sv,x,rfl,hk,hs,hx,hm,nm,ey,q⟩:=h;have dG:=mC hr;have eb:(A.deeper (xE "fork" (aN wG) s.heap.objs.size f ep)).units<dY:=by omega
 have r1:cX 1 _:=hr.mono (by decide);have r2:cX 2 _:=hr.mono (by decide);have r5:cX 5 _:=hr.mono (by decide);have ej:cX 39 _:=hr;refine{_,aj (bE (i:=4) Ov.nd rfl (Or.inl rfl) (eT (pv 0) T.cl ew.m eh r5 ew.b .nil (dO.passes fun _ _ _ z=>z) (bf (pv 1) ai)))
  (aj (bE (i:=5) Ov.nd rfl (Or.inl rfl) (bR dB (aM ee r1 (by rfl) J.m J.F.kp J.b .nil bh (oA (cL wc (eE K (by rfl) (pv 0) (by rfl)) (eQ (bf (pv 2) ai))) ai)) (B9 yF au) (fun _ _=>rfl)))
  (aj (cW ((oE (pX (yy (eE K (by rfl) (pv 4) (by rfl)))) (mw (bN (Ot eb) (bR cv (pv 5) au (fun _ _=>rfl)) (eE K (by rfl) (pv 4) (by rfl)) (bY _)))).pt) (aD (jF dO rfl rfl mL xL ((dP cg ai)))) cj)
  (aj (eR (aM ef r2 (by rfl) M.m M.F.kp M.b .nil bh (aq (eE K (by rfl) (pv 4) (by rfl)) (bf (pv 5) ai))))
  (aD (bQ (aM GR ej (by rfl) DR.m DR.F.kp DR.b .nil bh (bf (pv 4) (bf (pv 3) ai)))))))),?_}
 have big:=eD;have mo:=hk.rn.mo.ok;obtain⟨dx,ob⟩:=hk.ob;refine cy (cZ {_,rfl,k,dx,_,rfl,ob,qK _ _ _ _ (by decide +kernel),_,rfl,Ms,es,k,m,sl,kd,ev,n,kvs,rfl,hk,(fun z=>absurd nm z),fun G1 g I fk nn r _ en hM lp C=>bK ?_});dsimp only;have s1:aY H G1:=fun a o e=>(C.sm a o e).2.2.2;have R1:=hk.rn.same s1;obtain⟨W,et,fa⟩:=R1.sg;have dV:=aO fa;have le:=hk.rn.le;have eo:pO G1 sv x:=hs.same s1;have ek:=s1 _ _ ob;refine cy (cZ {_,rfl,k,CK,dx,_,_,rfl,ek,T.cl,T.nS,ke_s _ _ _ _,_,rfl,by show 1<=aB;omega,fun l1 eH=>?_});have t1:=aH eH (.lst [sv]);refine{sl,l1,W,[sv],rfl,rfl,t1 _ _ et,ah,by show W.length+1<=aB;omega,fun l2 eF=>?_};have t2:=aH eF (.lst (W++[sv]));have U:=t1.trans t2;refine{l2,W++[sv],es++[x],rfl,ah,uu (Paired.mono (fun _ _ z=>pO.same U z) fa) (.cons (eo.same U) .nil),by rw[ax];show es.length+1<1000;omega,fun G2 l3 ys t3 em eu V er=>?_};rw[ax]at V;have V:ys.length=es.length+1:=V;refine{1,rfl,l3,ys,-1,ys[es.length],rfl,rfl,SqL.of eu,IF V.symm,bK ?_};have ev:=er es.length ys[es.length] x (aE (by omega)) (by rw[cP (ay _),jZ];rfl);have eL:=U.trans t3;have C2:=C.same eL;have dL:=s1.trans eL;clear er eu em t3 U t2 t1 eH eF et fa R1;generalize ys[es.length]=hv at ev;dsimp only;obtain⟨th,kh,ec,q1,q2⟩:=id ev;obtain⟨O,rv,dv,fe,Z,_⟩:=id C2.hc;refine vh (fun ei G=>ei=[some (.ref k),some (.int n),some sv,some (.int Y),some (.ref g),some hv]/\G2=G) ?_ ?_
 rotate_left
 ·intro N hN;refine iz {_,rfl,g,CC,O,_,_,rfl,fe,TC.cl,TC.nR,N0 _ _ _ _ _,_,rfl,?_}
  cases hq:r.re with
  |none=>
   rw[hq]at Z;have Z:rv=.non:=Z;subst Z;exact gu (gu (hN _ _ ⟨rfl,rfl⟩))
  |some h=>
   rw[hq]at Z;obtain⟨kr,rfl,ea⟩:=Z;refine iA ?_;refine{_,rfl,th,_,_,.ref kh,ec,rfl,SqT.of q1,rfl,_,rfl,g,CC,O,_,_,rfl,fe,TC.cl,TC.nR,N0 _ _ _ _ _,kh,kr,(atP x es.length).key,h.key,rfl,rfl,q2,dh _ _ ea,_,rfl,?_};rw[ey nn r en hM h hq];exact gu (hN _ _ ⟨rfl,rfl⟩)
 rintro _ _ ⟨rfl,rfl⟩;obtain⟨ps,g1,g2⟩:=C2.hp;have un:=IA (x:=x) mo hM;refine cy {_,rfl,g,CC,O,_,_,rfl,fe,TC.cl,TC.nP,HW _ _ _ _ _,_,rfl,?_};refine tj ?_;refine De (F:=Hid {[g,I,fk],H} G2) dh g1 g2 C2.ok.fall (hZ.hid C2.nt ev) un (by omega) fun dz ez=>?_;have C3:=Ou C2 ez (DH C2.ok ⟨hx.to0,hx.to1,hx.wt,hx.wa,hx.wb⟩ rfl un);have l3:(wit (atP x es.length) r).pd.length<=1000000:=by
  show (jQ (atP x es.length) r.pd).length<=_;rw[(gJ _ _).length_eq];show r.pd.length+1<=_;omega
 dsimp only;refine gk {_,rfl,_,rfl,Ms,H,_,g,m,I,fk,_,Y,rfl,hk.rn.mo,C3,hm,l3,fun G4 t i e R=>?_};obtain⟨rl,env,el,j1,j2,_,j3,j4⟩:=R.rs;have sH:aY H G4:=fun a o e=>(R.cc.sm a o e).2.2.2;have ed:H rl=none:=by
  cases z:H rl with
  |none=>rfl
  |some o=>
   refine absurd (.inr {o,z,fun xs y=>?_}:rl∈({[g,I,fk],H}:Ex)) (gO j2);have:=dh _ _ j2;rw[sH _ _ z,y]at this
   cases this
 exact q G4 t rl env el nn i r e en hM R.st sH (dh _ _ j1) (dh _ _ j2) ed (Paired.mono (fun _ _ z=>z.same dh) j3) (j4.same dh)
end
def KLt(a b:Rec):Prop:=HT.lexLt a.h.key b.h.key=true
section
variable{Ms:List MD}{es:List Ev}
theorem DJ(mo:lW Ms):∀{i:Nat},(∀j,j<i->ROk Ms.length (itR Ms (cI Ms es) j).1/\gz (itR Ms (cI Ms es) j).1 1=none)->(itR Ms (cI Ms es) i).2.Pairwise KLt/\∀q∈(itR Ms (cI Ms es) i).2,∀e∈(itR Ms (cI Ms es) i).1.pd,HT.lexLt q.h.key e.key=true
 |0,_=>{.nil,fun q hq=>by cases hq}
 |i+1,H=>by
  obtain⟨a,b⟩:=DJ mo (i:=i) fun j U=>H j (by omega);have q:=H i (by omega);show ((itR Ms (cI Ms es) i).2++(d8 Ms (itR Ms (cI Ms es) i).1).2).Pairwise KLt/\∀q∈(itR Ms (cI Ms es) i).2++(d8 Ms (itR Ms (cI Ms es) i).1).2,∀e∈(d8 Ms (itR Ms (cI Ms es) i).1).1.pd,HT.lexLt q.h.key e.key=true
  cases jk mo q.1 (eZ q.2).2.1 with
  |err h M s e d V eq=>
   rw[eq];refine{by rw[cq];exact a,fun q hq e W=>?_};rw[cq]at hq;exact b q hq e (dW _ W)
  |ok h M s w d V N eq=>
   have l:(itR Ms (cI Ms es) i).1.pd.getLast?=some h:=by rw[d.pd,ff]
   have Y:=xb mo q.1 l;have Z:h∈(itR Ms (cI Ms es) i).1.pd:=by
    rw[d.pd];exact aX _ (aA.mpr rfl)
   refine{?_,fun p hp e W=>?_}
   ·rw[eq];refine fc.mpr {a,jG _ _,fun x hx y hy=>?_};rw[aA.mp hy];exact b x hx h Z
   ·rcases bM.mp hp with z|z
    ·exact HT.lx_trans (b p z h Z) (Y e W)
    ·rw[eq]at z;rw[aA.mp z];exact Y e W
end
theorem AM{k:List Int}:∀{rs:List Rec},rs.Pairwise KLt->rs.filter (fun q=>HT.lexLt q.h.key k)=rs.take (rs.filter (fun q=>HT.lexLt q.h.key k)).length
 | [],_=>rfl
 |q::rs,h=>by
  obtain⟨h1,h2⟩:=gj.mp h
  by_cases c:HT.lexLt q.h.key k=true
  ·rw[pC (by exact c),aR,List.take_succ_cons,<- AM h2]
  ·have e:(q::rs).filter (fun q=>HT.lexLt q.h.key k)=[]:=by
    refine List.filter_eq_nil_iff.mpr fun y hy z=>?_
    rcases ar.mp hy with w|w
    ·exact c (by rw[<- w];exact z)
    ·exact c (HT.lx_trans (h1 y w) z)
   rw[e];rfl
section
variable{Ms:List MD}{es:List Ev}{x:Ev}
theorem EZ(mo:lW Ms){n i j:Nat}{r:RS}{k:Int}{e e':End}(m:Mrk Ms es n r)(pa:zx r (atP x es.length))(s:jg Ms r k i e)(s':jg Ms (wit (atP x es.length) r) k j e')(k0:0<=k):(itR Ms r i).2.filter (fun q=>HT.lexLt q.h.key (atP x es.length).key)=(itR Ms (wit (atP x es.length) r) j).2.take ((itR Ms r i).2.filter (fun q=>HT.lexLt q.h.key (atP x es.length).key)).length:=by
 obtain⟨U,b2⟩:=EW mo s.1;have add:=mU Ms (cI Ms es) n;have Y:=m.e;have J:∀j,j<n+i->ROk Ms.length (itR Ms (cI Ms es) j).1/\gz (itR Ms (cI Ms es) j).1 1=none:=fun j O=>by
  by_cases c:j<n
  ·exact m.d j c
  ·obtain⟨d,rfl⟩:∃d,j=n+d:={j-n,by omega};rw[add d,<- Y];have q:=s.1 d (by omega);exact{q.1,zv q.2}
 have up:(itR Ms r i).2.Pairwise KLt:=by
  have z:=(DJ mo J).1;rw[add i,<- Y]at z;exact (fc.mp z).2.1
 have lt:=AM (k:=(atP x es.length).key) up;have pl:((itR Ms r i).2.filter (fun q=>HT.lexLt q.h.key (atP x es.length).key)).length<=(itR Ms r i).2.length:=kF _ _;have inl:∀d (hd:d<(itR Ms r i).2.length),d<((itR Ms r i).2.filter (fun q=>HT.lexLt q.h.key (atP x es.length).key)).length->HT.lexLt (itR Ms r i).2[d].h.key (atP x es.length).key=true:=fun d hd hp=>by
  have H:(itR Ms r i).2[d]∈(itR Ms r i).2.filter (fun q=>HT.lexLt q.h.key (atP x es.length).key):=by
   rw[lt];exact List.mem_take_iff_getElem.mpr {d,by omega,rfl}
  exact (xi.mp H).2
 rw[lt];generalize hp:((itR Ms r i).2.filter (fun q=>HT.lexLt q.h.key (atP x es.length).key)).length=p at pl inl;have Z:((itR Ms r i).2.take p).length=p:=by rw[cM];omega
 rw[Z]
 -- the steps one by one
 have W:∀d,d<p->∀h,(itR Ms r d).1.pd.getLast?=some h->HT.lexLt h.key (atP x es.length).key=true:=fun d hd h hl=>by
  have q:=s.1 d (by omega);have V:d<(itR Ms r i).2.length:=by omega
  obtain⟨u,hu⟩:=o4 Ms r (d+1) (i-(d+1));rw[show d+1+(i-(d+1))=i by omega]at hu;have hu:(itR Ms r i).2=((itR Ms r d).2++(d8 Ms (itR Ms r d).1).2)++u:=hu;have z:=inl d V hd
  cases jk mo q.1 (eZ q.2).2.1 with
  |ok h' M st w dd D N eq=>
   have l:(itR Ms r d).1.pd.getLast?=some h':=by rw[dd.pd,ff]
   rw[l]at hl
   cases hl;have e1:(itR Ms r i).2[d]?=some {h,wrB M.bs w,wrQ M.qs w,w.out}:=by
    rw[hu,eq,g9,cP (by rw[U d (by omega)];exact ay _),U d (by omega),jZ];rfl
   rw[aE V]at e1;have e1:=cQ e1;rw[e1]at z;exact z
  |err h' M st e2 dd D eq=>
   exfalso;have sp:(itR Ms r (d+1)).1.sp=some (.flt e2 h'):=by
    show (d8 Ms (itR Ms r d).1).1.sp=_;rw[eq]
   by_cases c:d+1<i
   ·have:=(eZ (s.1 (d+1) c).2).1;rw[sp]at this
    cases this
   ·have g:i=d+1:=by omega
    have ll:(itR Ms r i).2.length=d:=by
     rw[g];show ((itR Ms r d).2++(d8 Ms (itR Ms r d).1).2).length=d;rw[eq,cq,U d (by omega)]
    omega
 have pi:p<=i:=by omega
 have wd:∀d,d<=p->itR Ms (wit (atP x es.length) r) d=(wit (atP x es.length) (itR Ms r d).1,(itR Ms r d).2):=fun d hd=>by
  have ps:=xc mo m.d m.l (by rw[<- Y];exact pa);have I:=vK (x:=x) mo (n:=n+d) (fun j O=>J j (by omega)) fun j O h hl=>by
   by_cases c:j<n
   ·exact ps j c h hl
   ·obtain⟨f,rfl⟩:∃f,j=n+f:={j-n,by omega};rw[add f,<- Y]at hl;exact W f (by omega) h hl
  have w0:=vK (x:=x) mo (n:=n) m.d (fun j O=>ps j O);have a2:=mU Ms (cI Ms (es++[x])) n d;rw[I,w0,add d,<- Y]at a2;dsimp only at a2;obtain⟨a3,a4⟩:=Prod.ext_iff.mp a2;exact Prod.ext a3.symm (List.append_cancel_left a4).symm
 have lp:(itR Ms r p).2=(itR Ms r i).2.take p:=by
  obtain⟨u,hu⟩:=o4 Ms r p (i-p);rw[show p+(i-p)=i by omega]at hu;have l0:(itR Ms r p).2.length=p:=by
   by_cases c:p<i
   ·exact U p c
   ·have:p=i:=by omega
    rw[this];omega
  rw[hu,xf (by omega)];exact (A1 (by omega)).symm
 have pj:p<=j:=by
  rcases jf j p with c|c
  ·have d1:=s'.2.1;rw[wd j (by omega)]at d1;have q:=s.1 j (by omega);obtain⟨y1,y2,y3⟩:=eZ q.2;unfold gz at d1;have d1:(match (itR Ms r j).1.sp with|some s=>some (End.stp s)|none=>if (jQ (atP x es.length) (itR Ms r j).1.pd).isEmpty=true then some .empty else if k-((itR Ms r j).2.length:Int)<=0 then some .cut else none)=some e':=d1;rw[y1]at d1;dsimp only at d1;rw[if_neg (fun z=>?_),if_neg (by omega)]at d1
   ·cases d1
   ·have pl:=(gJ (atP x es.length) (itR Ms r j).1.pd).length_eq;rw[pF.mp z]at pl
    cases pl
  ·exact c
 obtain⟨u,hu⟩:=o4 Ms (wit (atP x es.length) r) p (j-p);rw[show p+(j-p)=j by omega,wd p (ay _)]at hu;have hu:(itR Ms (wit (atP x es.length) r) j).2=(itR Ms r p).2++u:=hu;rw[hu,lp,xf (by omega),List.take_take,Nat.min_self]
end
end My
namespace L2
open PySem PySem.Spec PyProof.Rows PySem.SeqAt
abbrev Ed:=List (Sum Str (List Int))
def xH(H:Hp)(v:V):Sum Str (List Int)->Prop
 |.inl s=>v=.str s
 |.inr n=>∃a,v=.ref a/\H a=some (.tup (n.map V.int))
def E1(H:Hp)(p:aa)(E:Ed):Prop:=∃xs,H p=some (.tup xs)/\aJ (xH H) xs E
theorem xH.same{H G:Hp}(s:aY H G){v:V}:∀{q:Sum Str (List Int)},xH H v q->xH G v q
 |.inl _,h=>h
 |.inr _,⟨a,e,h⟩=>{a,e,s _ _ h}
theorem E1.same{H G:Hp}(s:aY H G){p:aa}{E:Ed}(h:E1 H p E):E1 G p E:=by
 obtain⟨xs,h1,h2⟩:=h;exact{xs,s _ _ h1,Paired.mapP h2 fun _ _ z=>z.same s}
theorem AN{Z:Type}[DecidableEq Z]{n m:List Z}:((jz (min n.length m.length)).all (fun i=>decide (n[i]?=m[i]?))&&n.length==m.length)=decide (n=m):=by
 by_cases c:n=m
 ·subst c;rw[decide_eq_true rfl,beq_self_eq_true,Bool.and_true];exact IZ.mpr fun i _=>decide_eq_true rfl
 ·rw[decide_eq_false c,IG];intro z;rw[jb]at z;have l:n.length=m.length:=by simpa using z.2
  refine c (uI fun i=>?_)
  rcases jf i n.length with lt|ge
  ·exact of_decide_eq_true (IZ.mp z.1 i (rh.mpr (by omega)))
  ·rw[eU ge,eU (by omega)]
theorem zz{Z Y:Type}{R:Z->Y->Prop}:∀{xs:List Z} {ys:List Y} (p:aJ R xs ys) {j:Nat} (h:j<xs.length),R (xs[j]) (ys[j]'(by rw[<- aO p];exact h))
 |_,_,.nil,j,h=>by cases h
 |_,_,.cons a b,0,h=>a
 |_,_,.cons a b,j+1,h=>zz b (by simpa using h)
section
variable{P:aK}{w:bD}{H:Hp}{s:ak}
theorem KI(ok:HOk P w H s.heap){A:bX}{a b:aa}{n m:List Int}(hu:A.units+3<dY)(ha:H a=some (.tup (n.map V.int)))(hb:H b=some (.tup (m.map V.int))):EqAt A s (.ref a) (.ref b) (decide (n=m)):=by
 by_cases c:a=b
 ·subst c;rw[ha]at hb;have e:n=m:=List.map_inj_right (fun _ _ z=>by cases z;rfl) |>.mp (HO.tup.inj (cQ hb));rw[decide_eq_true e];exact EqAt.same _
 refine EqAt.of_refs c ?_;obtain⟨us,r1,i1⟩:=gv ok ha;obtain⟨vs,r2,i2⟩:=gv ok hb;have Z:=r1.length;have Y:=r2.length;rw[av]at Z Y;have k:=RcAt.tuples (A:=A) (e:=fun i=>decide (n[i]?=m[i]?)) i1 i2 (by omega) (fun j p q=>by
  have J:j<us.length:=by simpa using p
  have M:j<vs.length:=by simpa using q
  have hx:(n.map V.int)[j]?=some (.int (n[j]'(by omega))):=by rw[cC,aE (by omega)];rfl
  have hy:(m.map V.int)[j]?=some (.int (m[j]'(by omega))):=by rw[cC,aE (by omega)];rfl
  obtain⟨u,O,⟨t,rfl⟩⟩:=r1.get hx;obtain⟨v,ev,⟨t',rfl⟩⟩:=r2.get hy;have z:=EqAt.int_int (A:=A.in1) (s:=s) (n[j]'(by omega)) t (m[j]'(by omega)) t';have U:decide (n[j]?=m[j]?)=((n[j]'(by omega))==(m[j]'(by omega))):=by
   rw[aE (by omega),aE (by omega)]
   by_cases c:n[j]'(by omega)=m[j]'(by omega)
   ·rw[c,decide_eq_true rfl,beq_self_eq_true]
   ·rw[decide_eq_false (fun z=>c (cQ z)),beq_eq_false_iff_ne.mpr c]
  show EqAt A.in1 s _ _ (decide (n[j]?=m[j]?));rw[U];have e1:us[j]=_:=(aF.mp O).2;have W:vs[j]=_:=(aF.mp ev).2;simpa[e1,W] using z)
 rw[aG,aG,<- Z,<- Y,AN]at k;exact k
theorem it_at(ok:HOk P w H s.heap){A:bX}{x y:V}{p q:Sum Str (List Int)}{u v:af}(hu:A.units+4<dY)(hx:xH H x p)(hy:xH H y q)(Y:RelV x u)(Z:RelV y v):EqAt A s u v (decide (p=q)):=by
 cases p with
 |inl i=>
  cases hx;obtain⟨t,rfl⟩:=Y
  cases q with
  |inl j=>
   cases hy;obtain⟨t',rfl⟩:=Z;have z:=EqAt.str_str (A:=A) (s:=s) i t j t';have e:(i==j)=decide ((Sum.inl i:Sum Str (List Int))=.inl j):=by
    by_cases c:i=j
    ·rw[c,decide_eq_true rfl,beq_self_eq_true]
    ·rw[decide_eq_false (fun z=>c (KZ z)),beq_eq_false_iff_ne.mpr c]
   rw[e]at z;exact z
  |inr m=>
   obtain⟨b,rfl,hb⟩:=hy
   cases Z;obtain⟨vs,r2,i2⟩:=gv ok hb;rw[decide_eq_false (by intro z;cases z)];exact EqAt.str_tuple i t i2 (by omega)
 |inr n=>
  obtain⟨a,rfl,ha⟩:=hx
  cases Y;obtain⟨us,r1,i1⟩:=gv ok ha
  cases q with
  |inl j=>
   cases hy;obtain⟨t',rfl⟩:=Z;rw[decide_eq_false (by intro z;cases z)];exact EqAt.tuple_str j t' i1 (by omega)
  |inr m=>
   obtain⟨b,rfl,hb⟩:=hy
   cases Z;have z:=KI (A:=A) ok (by omega) ha hb;have e:decide (n=m)=decide ((Sum.inr n:Sum Str (List Int))=.inr m):=by
    by_cases c:n=m
    ·rw[c,decide_eq_true rfl,decide_eq_true rfl]
    ·rw[decide_eq_false c,decide_eq_false (fun z=>c (kf z))]
   rw[e]at z;exact z
end
section
variable{X:Cx}
theorem IH{pins:List (aa×Obj)}{s:ak}{σ:St}{H:Hp}(I:Inv X pins σ H s)(hu:X.A.units+50<dY){xs ys:List V}{E F:Ed}{us vs:List af}(h1:aJ (xH H) xs E)(h2:aJ (xH H) ys F)(r1:c5 xs us)(r2:c5 ys vs) :
  ∀j (p:j<us.toArray.size) (q:j<vs.toArray.size),EqAt X.A.in1 s us.toArray[j] vs.toArray[j] (decide (E[j]?=F[j]?)):=fun j p q=>by
 have jp:j<us.length:=by simpa using p
 have jq:j<vs.length:=by simpa using q
 have J:=r1.length;have l2:=r2.length;have g:=aO h1;have D:=aO h2;obtain⟨u,M,ru⟩:=r1.get (aE (l:=xs) (i:=j) (by omega));obtain⟨v,ev,U⟩:=r2.get (aE (l:=ys) (i:=j) (by omega));have Y:xH H (xs[j]'(by omega)) (E[j]'(by omega)):=zz h1 (by omega);have Z:xH H (ys[j]'(by omega)) (F[j]'(by omega)):=zz h2 (by omega);have z:=it_at (A:=X.A.in1) I.hok (by show X.A.units+1+4<dY;omega) Y Z ru U;have O:decide (E[j]?=F[j]?)=decide (E[j]'(by omega)=F[j]'(by omega)):=by
  rw[aE (by omega),aE (by omega)]
  by_cases c:E[j]'(by omega)=F[j]'(by omega)
  ·rw[c,decide_eq_true rfl,decide_eq_true rfl]
  ·rw[decide_eq_false c,decide_eq_false (fun z=>c (cQ z))]
 rw[O];have e1:us[j]=_:=(aF.mp M).2;have W:vs[j]=_:=(aF.mp ev).2;simpa[e1,W] using z
def rEqE:R2:=fun x y H Q=>∃p q E F,x=.ref p/\y=.ref q/\E1 H p E/\E1 H q F/\Q (.bl (decide (E=F))) H
theorem Ow(hu:X.A.units+50<dY):OpR X (cN .Eq) rEqE:=by
 intro pins s σ H x y v u Q I W Y h;obtain⟨p,q,E,F,rfl,rfl,⟨xs,h1,h2⟩,⟨ys,V,Z⟩,k⟩:=h
 cases W
 cases Y;have fin:EP X pins σ Q (.bool (decide (E=F))) s:={.bl _,H,I,rfl,k};obtain⟨us,r1,i1⟩:=gv I.hok h1;obtain⟨vs,r2,i2⟩:=gv I.hok V;have z:=RcAt.tuples (A:=X.A) (e:=fun i=>decide (E[i]?=F[i]?)) i1 i2 (by omega) (IH I hu h2 Z r1 r2);rw[aG,aG,<- r1.length,<- r2.length,aO h2,aO Z,AN]at z;exact z X.prog X.w _ _ fin
end
end L2
namespace My
open PySem L2
theorem vL{H:Hp}{n:Nat}{p q:aa}{xs:List V}(hp:H p=some (.tup xs))(hq:H q=some (.tup xs))(sc:∀x∈xs,sc0 x):TEq H (n+1) (.ref p) (.ref q):=
 .inr (.inr {p,q,xs,xs,rfl,rfl,hp,hq,by
  clear hp hq
  induction xs with
  |nil=>exact .nil
  |cons x xs Z=>
   refine .cons ?_ (Z fun y hy=>sc y (ag _ hy))
   cases n with
   |zero=>exact{sc x aC,rfl}
   |succ n=>exact .inl {sc x aC,rfl}})
theorem xg{H:Hp}{n:Nat}{Y:Type}{R S:V->Y->Prop}(f:∀x y a,R x a->S y a->TEq H n x y):∀{xs ys:List V} {Z:List Y},aJ R xs Z->aJ S ys Z->aJ (TEq H n) xs ys:=by
 intro xs ys Z p
 induction p generalizing ys with
 |nil=>
  intro q
  cases q;exact .nil
 |cons a b W=>
  intro q
  cases q with
  |cons c d=>exact .cons (f _ _ _ a c) (W d)
theorem KJ{H:Hp}{n:Nat}{xs ys Z Y:List V}(a:aJ (TEq H n) xs ys)(b:aJ (TEq H n) Z Y):aJ (TEq H n) (xs++Z) (ys++Y):=by
 induction a with
 |nil=>exact b
 |cons h _ W=>exact .cons h W
theorem j6{H:Hp}{n:Nat}{x:V}(h:sc0 x):TEq H n x x:=by
 cases n with
 |zero=>exact⟨h,rfl⟩
 |succ n=>exact .inl ⟨h,rfl⟩
theorem vM{H:Hp}{n:Nat}{a b:aa}{h:Ev}(ha:H a=some (BX h))(hb:H b=some (BX h)):TEq H (n+1) (.ref a) (.ref b):=
 vL ha hb fun x hx=>by
  simp only[ar,aV,or_false]at hx
  rcases hx with rfl|rfl|rfl|rfl<;>trivial
theorem Ox{H:Hp}{n:Nat}{v W:V}{e:Ev}(h:hZ H v e)(h':hZ H W e):TEq H (n+2) v W:=by
 obtain⟨t,k,rfl,h1,h2⟩:=h;obtain⟨t',k',rfl,Z,Y⟩:=h';exact .inr (.inr {t,t',_,_,rfl,rfl,h1,Z,.cons (vM h2 Y) (.cons (j6 trivial) (.cons (j6 trivial) (.cons (j6 trivial) (.cons (j6 trivial) .nil))))})
theorem II{H:Hp}{n:Nat}{a b:aa}{ns:List Int}(ha:H a=some (.lst (ns.map V.int)))(hb:H b=some (.lst (ns.map V.int))):TEq H (n+1) (.ref a) (.ref b):=
 .inr (.inl {a,b,_,_,rfl,rfl,ha,hb,by
  clear ha hb
  induction ns with
  |nil=>exact .nil
  |cons x xs Z=>exact .cons (j6 trivial) Z})
theorem IJ{H:Hp}{n:Nat}:∀{qs:List (Str×List Int)} {qa Z:List (Str×aa)} {U Y:List V},gE H qa qs->gE H Z qs->aJ (AA H) U qa->aJ (AA H) Y Z->aJ (TEq H (n+2)) U Y
 | [],qa,Z,U,Y,e,g,a,c=>by
  cases e
  cases g
  cases a
  cases c;exact .nil
 |q::qs,qa,Z,U,Y,e,g,a,c=>by
  cases e with
  |cons e f=>
  cases g with
  |cons g h=>
  cases a with
  |cons a b=>
  cases c with
  |cons c d=>
  obtain⟨t,rfl,h1⟩:=a;obtain⟨t',rfl,W⟩:=c;obtain⟨e1,O⟩:=e;obtain⟨g1,M⟩:=g;rw[e1]at h1;rw[g1]at W;exact .cons (.inr (.inr {t,t',_,_,rfl,rfl,h1,W,.cons (j6 trivial) (.cons (II O M) .nil)})) (IJ f h b d)
theorem KL{H:Hp}{n:Nat}{v v':V}{q:Rec}(h:RcIn H v q)(h':RcIn H v' q):TEq H (n+4) v v':=by
 obtain⟨rc,k,wl,od,ca,D,vs,qa,rfl,h1,h2,h3,h4,h5,h6,h7,h8⟩:=h;obtain⟨ce,k',W,I,Y,Z,bS,bP,rfl,cd,J,ci,U,M,O,bW,g⟩:=h';have w1:aJ (TEq H (n+2)) ca Y:=xg (R:=zg H) (S:=zg H) (fun x y a hx hy=>by
  obtain⟨t,rfl,z⟩:=hx;obtain⟨t',rfl,z'⟩:=hy;exact vL z z' fun x hx=>by
   simp only[ar,aV,or_false]at hx
   rcases hx with rfl|rfl<;>trivial) h4 U
 have w2:aJ (TEq H (n+2)) D Z:=IJ h6 O h5 M;refine .inr (.inr {rc,ce,_,_,rfl,rfl,h1,cd,.cons (vM h2 J) (.cons (j6 trivial) (.cons (j6 trivial) (.cons (j6 trivial) (.cons (j6 trivial) (.cons ?_ (.cons ?_ .nil))))))})
 ·exact .inr (.inl {wl,W,_,_,rfl,rfl,h3,ci,KJ w1 w2})
 ·exact .inr (.inl {od,I,_,_,rfl,rfl,h7,bW,xg (R:=hZ H) (S:=hZ H) (fun x y a hx hy=>Ox hx hy) h8 g})
theorem xh{H:Hp}{a b:aa}{xs ys:List V}{rs:List Rec}(ha:H a=some (.lst xs))(hb:H b=some (.lst ys))(Z:aJ (RcIn H) xs rs)(Y:aJ (RcIn H) ys rs):TEq H 5 (.ref a) (.ref b):=
 .inr (.inl {a,b,xs,ys,rfl,rfl,ha,hb,xg (R:=RcIn H) (S:=RcIn H) (fun x y q hx hy=>KL hx hy) Z Y})
theorem uS{Z Y:Type}{R:Z->Y->Prop}:∀{xs:List Z} {ys:List Y} (n:Nat),aJ R xs ys->aJ R (xs.take n) (ys.take n)
 |_,_,0,_=>.nil
 |_,_,_+1,.nil=>.nil
 |_,_,n+1,.cons a b=>.cons a (uS n b)
theorem DK{H:Hp}{n:Nat}{v W:V}:∀{e:End},j0 H v e->j0 H W e->TEq H (n+3) v W
 |.empty,⟨t,e1,h1⟩,⟨t',Z,h2⟩=>by
  subst e1 Z;exact vL h1 h2 fun x hx=>by
   rw[aA.mp hx];exact trivial
 |.cut,⟨t,e1,h1⟩,⟨t',Z,h2⟩=>by
  subst e1 Z;exact vL h1 h2 fun x hx=>by
   rw[aA.mp hx];exact trivial
 |.stp (.fin _),⟨t,k,e1,h1,g1⟩,⟨t',k',Z,h2,Y⟩=>by
  subst e1 Z;exact .inr (.inr {t,t',_,_,rfl,rfl,h1,h2,.cons (j6 trivial) (.cons (vM g1 Y) .nil)})
 |.stp (.flt _ _),⟨t,k,e1,h1,g1⟩,⟨t',k',Z,h2,Y⟩=>by
  subst e1 Z;exact .inr (.inr {t,t',_,_,rfl,rfl,h1,h2,.cons (j6 trivial) (.cons (j6 trivial) (.cons (vM g1 Y) .nil))})
theorem AO{H:Hp}{t t' rl Y:aa}{en Z:V}{xs ys:List V}{rs:List Rec}{e:End}(h1:H t=some (.tup [.ref rl,en]))(h2:H t'=some (.tup [.ref Y,Z]))(g1:H rl=some (.lst xs))(U:H Y=some (.lst ys))(O:aJ (RcIn H) xs rs)(p2:aJ (RcIn H) ys rs)(e1:j0 H en e)(W:j0 H Z e):TEq H 6 (.ref t) (.ref t'):=
 .inr (.inr {t,t',_,_,rfl,rfl,h1,h2,.cons (xh g1 U O p2) (.cons (DK (n:=2) e1 W) .nil)})
theorem IK{G G':Hp}{p:aa}(pu:dE G p):aY (Hid {[],G} G') (Wp p G'):=fun a o e=>by
 refine gQ (dh _ _ e) fun z=>?_;subst z;obtain⟨x,y,h⟩:=pu;exact gO e (.inr {_,h,fun xs z=>by cases z})
theorem jg.uniq{Ms:List MD}{r:RS}{Z:Int}{i Y:Nat}{e e':End}(a:jg Ms r Z i e)(b:jg Ms r Z Y e'):i=Y/\e=e':=by
 have W:i=Y:=by
  rcases I9 i Y with z|z|z
  ·have:=(b.1 i z).2;rw[a.2.1]at this
   cases this
  ·exact z
  ·have:=(a.1 Y z).2;rw[b.2.1]at this
   cases this
 subst W;have:=a.2.1.symm.trans b.2.1
 cases this;exact⟨rfl,rfl⟩
def Bk(Ms:List MD)(es:List Ev)(k:Int)(rs:List Rec)(e:End):Prop:=∃i,jg Ms (cI Ms es) k i e/\rs=(itR Ms (cI Ms es) i).2
section
variable{Ms:List MD}{es:List Ev}{k k':Int}{rs rs':List Rec}{e e':End}
theorem Bk.uniq(a:Bk Ms es k rs e)(b:Bk Ms es k rs' e'):rs=rs'/\e=e':=by
 obtain⟨i,h1,rfl⟩:=a;obtain⟨j,h2,rfl⟩:=b;obtain⟨rfl,rfl⟩:=h1.uniq h2;exact⟨rfl,rfl⟩
theorem Bk.few(mo:lW Ms)(k0:0<=k)(a:Bk Ms es k rs e):(rs.length:Int)<=k:=by
 obtain⟨i,h1,rfl⟩:=a;exact oB mo h1 k0
theorem Bk.pre(mo:lW Ms)(k0:0<=k)(l:k<=k')(a:Bk Ms es k rs e)(b:Bk Ms es k' rs' e'):rs=rs'.take rs.length:=by
 have f:=a.few mo k0;obtain⟨i,h1,rfl⟩:=a;obtain⟨j,h2,rfl⟩:=b
 rcases Nat.le_total i j with z|z
 ·obtain⟨t,Z⟩:=o4 Ms (cI Ms es) i (j-i);rw[show i+(j-i)=j by omega]at Z;rw[Z,List.take_left'];rfl
 ·rcases jf j i with y|y
  ·have d1:=(h1.1 j y).2;have d2:=h2.2.1;rw[lX d1 (by omega)]at d2
   cases d2
  ·have:i=j:=by omega
   subst this;rw[eg]
theorem Bk.cut(mo:lW Ms)(k0:0<=k)(a:Bk Ms es k rs .cut):(rs.length:Int)=k:=by
 have f:=a.few mo k0;obtain⟨i,h1,rfl⟩:=a;have d:=h1.2.1;unfold gz at d
 split at d
 ·cases d
 ·split at d
  ·cases d
  ·split at d
   ·omega
   ·cases d
theorem Bk.more(l:k<=k')(n:e≠.cut)(a:Bk Ms es k rs e):Bk Ms es k' rs e:=by
 obtain⟨i,h1,rfl⟩:=a;refine{i,{fun j Z=>{(h1.1 j Z).1,lX (h1.1 j Z).2 (by omega)},?_,h1.2.2},rfl};have d:=h1.2.1;unfold gz at d |-
 split at d
 ·exact d
 ·split at d
  ·rename_i c
   rw[if_pos c];exact d
  ·split at d
   ·cases d;exact absurd rfl n
   ·cases d
end
def B3:End->Ed
 |.empty=>[.inl "empty"]
 |.cut=>[.inl "cut"]
 |.stp (.fin h)=>[.inl "end",.inr h.key]
 |.stp (.flt f h)=>[.inl "fault",.inl (qE f),.inr h.key]
theorem Oy{F:Hp}{v:V}:∀{e:End},j0 F v e->∃t,v=.ref t/\E1 F t (B3 e)
 |.empty,⟨t,e,h⟩=>{t,e,_,h,.cons rfl .nil}
 |.cut,⟨t,e,h⟩=>{t,e,_,h,.cons rfl .nil}
 |.stp (.fin _),⟨t,k,e,h1,h2⟩=>{t,e,_,h1,.cons rfl (.cons ⟨k,rfl,h2⟩ .nil)}
 |.stp (.flt _ _),⟨t,k,e,h1,h2⟩=>{t,e,_,h1,.cons rfl (.cons rfl (.cons ⟨k,rfl,h2⟩ .nil))}
theorem Oz{e:End}(h:B3 e=[.inl "cut"]):e=.cut:=by
 cases e with
 |empty=>
  injection h with h;injection h with h;exact absurd h (by decide +kernel)
 |cut=>rfl
 |stp s=>
  cases s with
  |fin x=>cases h
  |flt f x=>cases h
def IL:Ed:=[.inl "cut"]
theorem Bk.own{Ms:List MD}{es:List Ev}{k:Int}{rs r:List Rec}{e e':End}(mo:lW Ms)(k0:0<=k)(a:Bk Ms es k rs e)(b:Bk Ms es (if B3 e=IL then (rs.length:Int) else rs.length+1) r e'):r=rs/\e'=e:=by
 by_cases c:B3 e=IL
 ·rw[if_pos c]at b;have Y:=Oz c;subst Y;rw[a.cut mo k0]at b;exact b.uniq a
 ·rw[if_neg c]at b;have Z:e≠.cut:=fun z=>c (by rw[z];rfl)
  rcases Int.le_total k ((rs.length:Int)+1) with z|z
  ·exact b.uniq (a.more z Z)
  ·have ne:e'≠.cut:=fun y=>by
    subst y;have h1:=b.cut mo (by omega);have h2:=congrArg iW (b.pre mo (by omega) z a);rw[cM]at h2;omega
   exact (b.more z ne).uniq a
section
variable{P:aK}{w:bD}{K:ae}{mg:Str->Option af}{base:cB}{f fPl CM CS CB:aa}{fd fdPl:bU}
seal PS PSs PE PA PT PW PI PG PGs PC
abbrev nIs:List Str:=["model","signs","records","ending","most","book"]
abbrev pIs:List Str:=["model","signs","records","ending"]
theorem OA:bO nIs pIs (aN qP):={}
inductive IM(CM:aa)(vs:List V)(H:Hp)(Q:VK)(_e:XK):Prop where
 |mk(Ms:List MD)(es:List Ev)(m sgl rl:aa)(en:V)(rvs:List V)(rs:List Rec)(e:End)(k:Int)(_:vs=[.ref m,.ref sgl,.ref rl,en])(_:Rn CM Ms es H m sgl)(_:H rl=some (.lst rvs))(_:aJ (RcIn H) rvs rs)(_:rs.length<=900)(_:j0 H en e)(_:0<=k)(_:Bk Ms es k rs e)(_:∀G,aY H G->Q (.bl true) G):IM CM vs H Q _e
def Mh(CM:aa):Sp:=fun vs H Q Z=>IM CM vs H Q Z
theorem ok_is(D:Df K mg "is_book" qP pIs f fd)(U:Df K mg "plain" vG ["model","signs","most"] fPl fdPl)(cr:bC P w K mg base CX0 40 fPl fdPl ["model","signs","most"] (Ig CM CS CB))(TB:BkT K mg CB)(B:Bl mg):bC P w K mg base CX0 41 f fd pIs (Mh CM):=by
 refine D.F.ok OA (fun vs H Q E h=>?_) (fun ci A outer s H vs Q E hr h=>?_)
 ·obtain⟨Ms,es,m,M,rl,en,W,rs,e,k,rfl,_⟩:=h;rfl
 obtain⟨Ms,es,m,M,rl,en,W,rs,e,k,rfl,R,O,g,l9,hE,k0,bk,q⟩:=h;have V:=Eu hr;have cx:cX 40 _:=hr;have mo:=R.mo.ok;refine{_,aj (bE (i:=4) OA.nd rfl (Or.inl rfl) (rZ (bN (Ow V) (pv 3) (d9 (dP cg ai)) (bY _)) (cO (eB K (by rfl)) (by rfl) B.len cb (bf (pv 2) ai)) (cL gK (cO (eB K (by rfl)) (by rfl) B.len cb (bf (pv 2) ai)) au)))
  (aj (bE (i:=5) OA.nd rfl (Or.inl rfl) (aM cr cx (by rfl) U.m U.F.kp U.b .nil bh (bf (pv 0) (bf (pv 1) (bf (pv 4) ai)))))
  (aD (bQ (Mx (oG (BA V) (eE K (by rfl) (pv 5) (by rfl)) (pv 2) (bY _)) (Mw (oG (BA V) (eE K (by rfl) (pv 5) (by rfl)) (pv 3) (bY _))))))),?_}
 have lx:=aO g;obtain⟨et,rfl,cp⟩:=Oy hE;refine cy (cZ ?_);refine{_,rfl,BR,fun t ht=>?_};have Y:=aH ht (.tup [.str "cut"]);refine{et,t,B3 e,IL,rfl,rfl,cp.same Y,{_,ah,.cons rfl .nil},_,rfl,?_}
 -- the book again
 have go:∀{Z:Int},Z=(if B3 e=IL then (rs.length:Int) else rs.length+1)->Jc (Fq (La (Ig CM CS CB) [] E0 (lB (vP 0) (lB (vP 1) (lB (vP 4) zY)))) (zW 5)) (MA (K3 (tOp (fun x y H Q=>∃n,n<=20/\TEq H n x y/\Q (.bl true) H) (FF K (vP 5) "records") (vP 2)) (tOp (fun x y H Q=>∃n,n<=20/\TEq H n x y/\Q (.bl true) H) (FF K (vP 5) "ending") (vP 3)))) {nx:=fun _ H'=>Q .non H',rt:=Q} [some (.ref m),some (.ref M),some (.ref rl),some (.ref et),some (.int Z),none] (upd H t (.tup [.str "cut"])):=fun {Z} hm=>by
  have I:=R.same Y;obtain⟨cs,h1,h2⟩:=I.sg;have few:Z<=1000:=by
   rw[hm]
   split<;>omega
  refine cy (cZ {_,rfl,_,rfl,_,rfl,?_});refine tj ?_;refine{Ms,m,M,cs,es,Z,rfl,I.mo,I.lm,h1,h2,I.le,I.ev,few,fun G b i e' s st bi=>bK ?_};dsimp only;obtain⟨dx,ce,sl,cd,ca,ss,g1,g2,g3,g4,_⟩:=bi.ex;have da:Bk Ms es Z (itR Ms (cI Ms es) i).2 e':=⟨i,st,rfl⟩;rw[hm]at da;obtain⟨er,ee⟩:=bk.own mo k0 da;have sG:=Y.trans s;have J:=dh _ _ g1;rw[er]at g3;rw[ee]at g4;exact gk {_,rfl,b,CB,dx,_,_,rfl,J,TB.cl,TB.nR,NX _ _ _,_,rfl,5,by decide,xh (dh _ _ g2) (sG _ _ O) (Paired.mono (fun _ _ z=>z.same dh) g3) (Paired.mono (fun _ _ z=>z.same sG) g),_,rfl,iA {_,rfl,b,CB,dx,_,_,rfl,J,TB.cl,TB.nE,bk_e _ _ _,_,rfl,3,by decide,DK (n:=0) (g4.same dh) (hE.same sG),q _ sG}}
 by_cases c:B3 e=IL
 ·rw[decide_eq_true c];refine iA ?_;refine{_,rfl,rl,W,rfl,.inl (SqL.of (Y _ _ O)),bK ?_};exact go (by rw[if_pos c,lx])
 ·rw[decide_eq_false c];refine gu ?_;refine{_,rfl,rl,W,rfl,.inl (SqL.of (Y _ _ O)),_,_,rfl,rfl,bK ?_};exact go (by rw[if_neg c,lx])
end
end My
namespace L2
open PySem PySem.Spec PyProof.Rows
theorem AQ{X:Cx}:lC (CXo X.prog X.w) X E0:=fun pins σ H s e s' I h=>by
 obtain⟨Z,C,H',B,_,z,_⟩:=h;exact z.elim
theorem KM{X:Cx}(K:ae)(Z:X.K=K)(hu:X.A.units<dY):OpR X (cN .Lt) (rLtT K):=by
 rw[<- Z];exact M0 hu
theorem KN{X:Cx}:OpR X (cN .IsNot) (fun x y H Q=>x=.bl true/\y=.bl true/\Q (.bl false) H):=by
 intro pins s σ H x y v u Q I Y Z h;obtain⟨rfl,rfl,q⟩:=h
 cases Y
 cases Z;exact wpAny_isNot_self rfl (eW I q rfl)
end L2
namespace My
open PySem L2
theorem B4{K:ae}{n:Nat}{O:TE}{g:TG}{tc:L2.TT}{te:TE}{σ:St}{H:Hp}{Q:VK}(W:aa->List V->Hp->Prop)(hi:∀R:VK,(∀a xs H1,W a xs H1->R (.ref a) H1)->O σ H R)(hx:∀a xs H1,W a xs H1->SqL K H1 a xs)(Z:aa->List V->Hp->Nat->List V->Hp->Prop)(h0:∀a xs H1,W a xs H1->Z a xs H1 0 [] H1)
  (hl:∀a xs H1,W a xs H1->∀i ys G,i<=xs.length->Z a xs H1 i ys G->SqL K G a xs/\ys.length<aB)
  (hs:∀a xs H1,W a xs H1->∀i x ys G,xs[i]?=some x->Z a xs H1 i ys G->g x (cF n none++σ) G fun Y H2=>Y.drop n=σ/\tc Y H2 fun b U=>if b=true then te Y U fun y M=>Z a xs H1 (i+1) (ys++[y]) M else Z a xs H1 (i+1) ys U)
  (hd:∀a xs H1,W a xs H1->∀ys G,Z a xs H1 xs.length ys G->∀p,G p=none->Q (.ref p) (upd G p (.lst ys))):uF n (Fw K O) g tc te σ H Q:=
 hi _ fun a xs H1 p=>{a,rfl,{xs,hx a xs H1 p},tX (Z a xs H1) (h0 a xs H1 p) (hl a xs H1 p) (hs a xs H1 p) (hd a xs H1 p)}
theorem E2{xs:List V}{k:Nat}(h:k<=xs.length):pG xs none (some (k:Int))=xs.take k:=by
 unfold pG;rw[HT.sIx_nat,HT.sIx_none,rA,Nat.sub_zero,Nat.min_eq_left h]
section
variable{G:Hp}{k C dx:aa}{fs:List (Str×V)}
theorem uT(hk:G k=some (.ins C dx fs)):(∀{a xs},G a=some (.tup xs)->Wp k G a=some (.tup xs))/\∀{a xs},G a=some (.lst xs)->Wp k G a=some (.lst xs):=
 {(fun {a xs} h=>gQ h fun z=>by rw[z,hk]at h;cases h),(fun {a xs} h=>gQ h fun z=>by rw[z,hk]at h;cases h)}
theorem RcIn.wp(hk:G k=some (.ins C dx fs)){v:V}{q:Rec}(h:RcIn G v q):RcIn (Wp k G) v q:=by
 obtain⟨t,l⟩:=uT hk;obtain⟨D,kk,wl,od,Y,Z,vs,qa,e,h1,h2,I,g,O,W,M,U⟩:=h;refine{D,kk,wl,od,Y,Z,vs,qa,e,t h1,t h2,l I,Paired.mono (fun _ _ z=>z.keep fun a xs e=>t e) g,Paired.mono (fun _ _ z=>z.keep fun a xs e=>t e) O,?_,l M,Paired.mono (fun _ _ ⟨t',k',e',J,H⟩=>{t',k',e',t J,t H}) U};unfold gE at W |-;exact Paired.mono (fun _ _ z=>{z.1,l z.2}) W
theorem j0.wp(hk:G k=some (.ins C dx fs)){v:V}:∀{e:End},j0 G v e->j0 (Wp k G) v e
 |.empty,⟨t,e,h⟩=>{t,e,(uT hk).1 h}
 |.cut,⟨t,e,h⟩=>{t,e,(uT hk).1 h}
 |.stp (.fin _),⟨t,k',e,h1,h2⟩=>{t,k',e,(uT hk).1 h1,(uT hk).1 h2}
 |.stp (.flt _ _),⟨t,k',e,h1,h2⟩=>{t,k',e,(uT hk).1 h1,(uT hk).1 h2}
end
section
variable{P:aK}{w:bD}{K:ae}{mg:Str->Option af}{base:cB}{f fG fFk fR fIs CK CC CM CS CB CN:aa}{fd fdG fdFk fdR fdIs:bU}
seal PS PSs PE PA PT PW PI PG PGs PC
abbrev nGd:List Str:=["_law_keeper","_law_other","_law_longer","_law_model","_law_signs_here","_law_sign_here","_law_number","_law_most","_law_found","_law_ending","_law_ahead","_law_key","_law_same"]
abbrev pGd:List Str:=["_law_keeper","_law_other","_law_longer","_law_model","_law_signs_here","_law_sign_here","_law_number","_law_most"]
theorem E3:bO nGd pGd (aN jY):={}
theorem ndGd:((["_law_record"]:List Str)++nGd).Nodup:=by decide +kernel
inductive Mj(CK CC CM CS:aa)(vs:List V)(H:Hp)(Q:VK)(_e:XK):Prop where
 |mk(Ms:List MD)(es:List Ev)(x:Ev)(k0 m0 sl0 kd0 k1 m1 sl1 kd1 k2 m2 sl2 kd2 m sg:aa)(ev0 ev1 ev2 most:Int)(kv0 kv1 kv2:List (Key×V))(sv:V)(n:Nat)(r:RS)(_:vs=[.ref k0,.ref k1,.ref k2,.ref m,.ref sg,sv,.int n,.int most])(_:xC CK CC CM CS Ms es H k0 m0 sl0 kd0 ev0 kv0)(_:Rn CM Ms es (Wp k0 H) m0 sl0)(_:1<=ev0)(_:ev0<=100)(_:xC CK CC CM CS Ms es (Wp k0 H) k1 m1 sl1 kd1 ev1 kv1)(_:xC CK CC CM CS Ms (es++[x]) (Wp k0 H) k2 m2 sl2 kd2 ev2 kv2)(_:Rn CM Ms es (Wp k0 H) m sg)(_:es.length<60)(_:pO H sv x)(_:q8 Ms.length x)(_:0<=most)(_:most<=40)(_:n<=40)(_:(n:Int)∈rQ kv0)(_:(n:Int)∈rQ kv1)(_:(n:Int)∈rQ kv2)(_:Mrk Ms es n r)(_:zx r (atP x es.length))(_:∀G,But k0 H G->Q (.bl true) G):Mj CK CC CM CS vs H Q _e
def spGd(CK CC CM CS:aa):Sp:=fun vs H Q Z=>Mj CK CC CM CS vs H Q Z
theorem ok_gd(D:Df K mg "_law_good" jY pGd f fd)(MG:Mt K CK "go_on" "Keeper.go_on" iJ pKg fG fdG)(GG:bC P w K mg base (CXo P w) 40 fG fdG pKg (spKg CK CC CM CS CN))(pm:Df K mg "fork" wG pFk fFk fdFk)(lr:bC P w K mg base (CXo P w) 40 fFk fdFk pFk (spFk CK CC CM CS))(MR:Mt K CK "run" "Keeper.run" iS pKr fR fdR)(kc:bC P w K mg base CX0 40 fR fdR pKr (KG CK CC CM CS CB))(ro:Df K mg "is_book" qP pIs fIs fdIs)(ka:bC P w K mg base CX0 41 fIs fdIs pIs (Mh CM))(TK:KeT K mg CK)(TB:BkT K mg CB)(B:Bl mg):bC P w K mg base CX0 42 f fd pGd (spGd CK CC CM CS):=by
 refine D.F.ok E3 (fun vs H Q E h=>?_) (fun ki A outer s H vs Q E hr h=>?_)
 ·obtain⟨Ms,es,x,k0,m0,sG,tq,k1,m1,pR,sx,k2,m2,mu,nT,m,sg,tm,ri,mf,Z,ry,rm,oD,sv,n,r,rfl,_⟩:=h;rfl
 obtain⟨Ms,es,x,k0,m0,sG,tq,k1,m1,pR,sx,k2,m2,mu,nT,m,sg,tm,ri,mf,Z,ry,rm,oD,sv,n,r,rfl,K0,R0,ls,ky,K1,K2,R,hK,hs,hx,sS,io,hC,n0,n1,n2,hM,pa,fin⟩:=h;have pr:=Eu hr;have lc:(A.deeper (xE "_law_good" (aN jY) s.heap.objs.size f ki)).units<dY:=by omega
 have I:cX 40 _:=hr.mono (by decide);have iF:cX 41 _:=hr;refine{_,aj (cW (bN (Gm pr) (eT (pv 0) TK.cl MG.m GG I MG.b .nil AQ (bf (pv 6) (bf (pv 7) ai))) (eT (pv 1) TK.cl MG.m GG I MG.b .nil AQ (bf (pv 6) (bf (pv 7) ai))) (bY _)) (aD (bQ nC)) cj)
  (aj (rF (aM lr I (by rfl) pm.m pm.F.kp pm.b .nil AQ (bf (pv 0) (bf (pv 6) (bf (pv 5) (bf (pv 7) ai))))) (vQ rfl (je (dS (i:=8) E3.nd rfl (Or.inl rfl)) (je (dS (i:=9) E3.nd rfl (Or.inl rfl)) sh))))
  (aj (cW (bN (Gm pr) (eT (pv 2) TK.cl MG.m GG I MG.b .nil AQ (bf (pv 6) (bf (pv 7) ai))) (d9 (bf (pv 8) (bf (pv 9) ai))) (bY _)) (aD (bQ nC)) cj)
  (aj (bE (i:=10) E3.nd rfl (Or.inl rfl) (eE K (by rfl) (eT (pv 0) TK.cl MR.m kc I MR.b .nil bh (bf (pv 6) ai)) (by rfl)))
  (aj (cW (bN KN (aM ka iF (by rfl) ro.m ro.F.kp ro.b .nil bh (bf (pv 3) (oA (cL wc (pv 4) (eQ (bf (pv 5) ai))) (oA (cL wc (pv 10) (pv 8)) (bf (pv 9) ai))))) nC (bY _)) (aD (bQ nC)) cj)
  (aj (bE (i:=11) E3.nd rfl (Or.inr rfl) (d9 (qI (bR cv (pv 5) au (fun _ _=>rfl)) (qI (bR cv (pv 5) au (fun _ _=>rfl)) (aq (B9 yF au) (iw (cO (eB K (by rfl)) (by rfl) B.len cb (bf (pv 4) ai)) ai))))))
  (aj (yW (i:=12) ["_law_record"] (iH.open (NN:=nGd) (N:=nGd) (sc:=aN jY) rfl rfl (by decide +kernel) rfl (by decide +kernel) (by decide +kernel) rfl (by decide +kernel)) rfl E3.nd rfl (Or.inl rfl) (iM (bR cv (eT (pv 1) TK.cl MG.m GG I MG.b .nil AQ (bf (pv 6) (bf (pv 7) ai))) au (fun _ _=>rfl))) (fun _ _ _ _=>dS (i:=0) ndGd rfl (Or.inl rfl)) (fun _ _ _ _=>Jy (bN (KM K (by rfl) lc) (bR (mT K (by rfl)) (pv 0) au (fun _ _=>rfl)) (pv 12) (bY _))) (fun _ _ _ _=>pv 0))
  (aD (bQ (oG (BA pr) (sE yN (pv 8) vm (vn (cO (eB K (by rfl)) (by rfl) B.len cb (bf (pv 12) ai)))) (pv 12) (bY _)))))))))),?_}
 have big:=eD;have mo:=R.mo.ok;have one:∀{ml:List Ev} {r1 r2:RS},Mrk Ms ml n r1->Mrk Ms ml n r2->r1=r2:=fun a b=>by rw[a.e,b.e]
 obtain⟨pj,lz⟩:=K0.ob;obtain⟨md,oc⟩:=K1.ob;obtain⟨jp,lk⟩:=K2.ob;have tt:=o5 k0 H
 -- the first keeper and the other
 refine cy (iz {_,rfl,k0,pj,_,rfl,lz,qK _ _ _ _ (by decide +kernel),_,rfl,_,rfl,Ms,es,k0,m0,sG,tq,tm,n,Z,ry,rfl,K0,by omega,(fun z=>absurd n0 z),fun G1 t1 ih hL hA si i1 r1 e1 _ ii oe lf s1 oL lx _ nh ow=>?_});obtain rfl:si=n:=by omega
 obtain rfl:=one oe hM;refine{_,rfl,k1,md,_,rfl,s1 _ _ (tt _ _ oc),qK _ _ _ _ (by decide +kernel),_,rfl,_,rfl,Ms,es,k1,m1,pR,sx,ri,si,Z,rm,rfl,(K1.same tt).same s1,by omega,(fun z=>absurd n1 z),fun G2 t2 hE hH hY sH i2 r2 e2 _ ip oi tp s2 nl mz _ no mW=>?_};obtain rfl:sH=si:=by omega
 obtain rfl:=one oi hM;obtain⟨rfl,rfl⟩:=tp.uniq lf;refine{6,by decide,AO (s2 _ _ oL) nl (s2 _ _ lx) mz (Paired.mono (fun _ _ z=>z.same s2) nh) no (ow.same s2) mW,_,rfl,gu ?_};have sZ:=s1.trans s2;clear nh ow oL lx no mW nl mz oe oi s1 s2;dsimp only[o8]
 -- the fork
 refine cy (cZ {_,rfl,_,rfl,_,rfl,_,rfl,Ms,es,k0,m0,sG,tq,tm,sH,Z,ry,sv,x,rfl,K0.same sZ,hs.same sZ,hx,by omega,n0,(fun nn r' hX kn=>?_),fun G3 t3 ti pw J rv i3 r3 e3 il oT tz s3 ph sA _ pM qt=>?_})
 ·obtain rfl:nn=sH:=by omega
  rw[one kn hM];exact pa
 obtain rfl:rv=sH:=by omega
 obtain rfl:=one oT hM;refine{t3,_,rfl,SqT.of ph,rfl,_,_,rfl,bK {_,_,rfl,bK {rfl,?_}}};dsimp only;have sK:=sZ.trans s3;obtain⟨qb,kz⟩:=hM.fork mo hx pa
 -- the keeper of the longer row
 refine cy (iz {_,rfl,k2,jp,_,rfl,sK _ _ (tt _ _ lk),qK _ _ _ _ (by decide +kernel),_,rfl,_,rfl,Ms,es++[x],k2,m2,mu,nT,mf,rv,Z,oD,rfl,(K2.same tt).same sK,by omega,(fun z=>absurd n2 z),fun G4 t4 hB hO hG g i4 r4 e4 _ im pb kw s4 pe nz _ my mt=>?_});obtain rfl:g=rv:=by omega
 have er:=one pb qb;subst er;obtain⟨rfl,rfl⟩:=kw.uniq tz;refine{_,rfl,_,rfl,lt2,fun t5 nf=>?_};have u5:=aH nf (.tup [.ref ti,pw]);have O:=s4.trans u5;refine{6,by decide,AO (u5 _ _ pe) ah (u5 _ _ nz) (O _ _ sA) (Paired.mono (fun _ _ z=>z.same u5) my) (Paired.mono (fun _ _ z=>z.same O) pM) (mt.same u5) (qt.same O),_,rfl,gu ?_};have M:=sK.trans O;have tn:=O _ _ sA;have ur:=Paired.mono (fun _ _ z=>RcIn.same O z) pM;have ub:=qt.same O;revert M tn ur ub;clear pM qt ph sA my mt pe nz O u5 s4 s3 sK sZ pb oT;generalize upd G4 t5 (.tup [.ref ti,pw])=G5;intro M tn ur ub;clear nf;dsimp only[o8]
 -- the records ahead of the mark
 have mn:=hM.l;have few:=oB mo tz sS;have lF:=aO ur;have wO:aY (Wp k0 H) (Wp k0 G5):=But.wp fun b o e _=>M b o e;have ut:=M _ _ lz;obtain⟨ts,rfl,kt⟩:=hs;have sF:=M _ _ kt;refine cy (cZ {_,rfl,k0,pj,_,rfl,ut,qK _ _ _ _ (by decide +kernel),_,rfl,Ms,es,k0,pj,m0,sG,.ref tq,tm,g,rfl,ut,R0.same wO,ls,ky,by omega,by omega,fun G6 b lv kI hD hN hS ra hF i6 e6 pq h6 nc ke _ rr mq sD l6 _ _ _=>?_});have jl:i6=g:=by
  rcases I9 i6 g with z|z|z
  ·have d1:=(hM.d i6 z).2;have d2:=pq.2.1;have l0:=mn i6 (by omega);rw[lX d1 (by omega)]at d2
   cases d2
  ·exact z
  ·have d1:=(eZ (pq.1 g z).2).2.2;have l0:=mn g (ay _);omega
 subst jl;have t5:=uT ut;have W6:aY (Wp k0 G5) (Wp k0 G6):=But.wp rr;have U6:aY (Wp k0 G5) G6:=W6.trans (o5 k0 G6);have V6:aY (Wp k0 H) G6:=wO.trans U6;have ss:=U6 _ _ (t5.2 tn);have px:=Paired.mono (fun _ _ z=>RcIn.same U6 (RcIn.wp ut z)) ur;have mv:=(j0.wp ut ub).same U6;have pk:=U6 _ _ (t5.1 sF);have pA:=Paired.mono (fun _ _ z=>RcIn.same dh z) nc;have lA:=aO pA;have bF:But k0 H G6:=fun a o e n=>rr a o (M a o e) n;have R6:=R.same V6;have K6:=K1.same V6;have ly:=V6 _ _ oc;obtain⟨U,py,pi⟩:=R6.sg;have lw:=aO pi;refine{b,CB,lv,_,_,rfl,mq,TB.cl,TB.nR,NX _ _ _,bK ?_};dsimp only;clear h6 nc ke mq pq wO ut tn ur ub sF rr t5 W6 U6 V6 M
 -- the book of the longer row
 refine cy (iz {_,rfl,_,rfl,_,rfl,by show 1<=aB;omega,fun l1 mc=>?_});have u1:=aH mc (.lst [V.ref ts]);refine{sg,l1,U,[V.ref ts],rfl,rfl,u1 _ _ py,ah,by show U.length+1<=aB;omega,fun l2 mb=>?_};have u2:=aH mb (.lst (U++[V.ref ts]));have sM:=u1.trans u2;refine{_,rfl,_,rfl,kI,ti,ra,J,rfl,rfl,sM _ _ sD,sM _ _ ss,by omega,fun l3 mr=>?_};have u3:=aH mr (.lst (ra++J));have Y:=sM.trans u3;have bk:Bk Ms (es++[x]) ((i6:Int)+Z) ((itR Ms (cI Ms es) i6).2++(itR Ms (wit (atP x es.length) r3) i4).2) e4:=by
  obtain⟨z,_⟩:=qb.on tz sS;refine{_,z,?_};rw[mU,<- qb.e,kz]
 refine{_,rfl,Ms,es++[x],m,l2,l3,pw,ra++J,_,e4,_,rfl,{R6.mo.same Y,R6.lm,{_,u3 _ _ ah,uu (Paired.mono (fun _ _ z=>pO.same Y z) pi) (.cons {ts,rfl,Y _ _ pk} .nil)},by rw[ax];show es.length+1<64;omega,fun e he=>?_},ah,uu (Paired.mono (fun _ _ z=>RcIn.same Y z) pA) (Paired.mono (fun _ _ z=>RcIn.same Y z) px),by rw[ax];omega,mv.same Y,by omega,bk,fun G7 s7=>{rfl,rfl,_,rfl,gu ?_}}
 ·rcases bM.mp he with z|z
  ·exact R6.ev e z
  ·rw[aA.mp z];exact hx
 have W:=Y.trans s7;have mx:=W _ _ ss;have pc:=Paired.mono (fun _ _ z=>RcIn.same W z) px;have rg:=W _ _ pk;have K7:=K6.same W;have lM:=W _ _ ly;have sB:=W _ _ py;have ov:But k0 H G7:=fun a o e n=>W a o (bF a o e n);clear W s7 Y u3 sM u2 u1 mc mb mr bF py ly K6 R6 pi pk px ss mv pA sD bk;dsimp only[o8]
 -- the sign's key
 refine cy (cZ {_,rfl,ts,_,0,.int x.t,rfl,rfl,SqT.of rg,rfl,_,rfl,ts,_,1,.int x.r,rfl,rfl,SqT.of rg,rfl,1,rfl,_,rfl,sg,U,rfl,.inl (SqL.of sB),by show 4<=aB;omega,fun tk mm=>bK ?_});dsimp only;have u8:=aH mm (.tup [.int x.t,.int x.r,.int (-1),.int U.length]);have rf:upd G7 tk (.tup [.int x.t,.int x.r,.int (-1),.int U.length]) tk=some (.tup ((atP x es.length).key.map V.int)):=by
  rw[ah,lw];rfl
 have rx:=u8 _ _ mx;have sd:=Paired.mono (fun _ _ z=>RcIn.same u8 z) pc;have K8:=K7.same u8;have sf:=u8 _ _ lM;have rb:But k0 H (upd G7 tk (.tup [.int x.t,.int x.r,.int (-1),.int U.length])):=fun a o e n=>u8 a o (ov a o e n);revert rf rx sd K8 sf rb;clear u8;generalize upd G7 tk (.tup [.int x.t,.int x.r,.int (-1),.int U.length])=G8;intro rf rx sd K8 sf rb;clear mx pc rg K7 lM sB ov mm
 -- the records below it
 have fs:=EZ mo hM pa tp tz sS;have f9:=oB mo tp sS;refine cy (cZ (B4 (fun a xs H1=>aY G8 H1/\H1 a=some (.lst xs)/\aJ (RcIn H1) xs (itR Ms r3 i2).2) (fun R hR=>{_,rfl,k1,md,_,rfl,sf,qK _ _ _ _ (by decide +kernel),_,rfl,_,rfl,Ms,es,k1,m1,pR,sx,ri,i6,Z,rm,rfl,K8,by omega,(fun z=>absurd n1 z),fun G9 t9 ln hI hT kG i9 r9 e9 _ iv kB js s9 jq sk _ ui hQ=>?_}) (fun a xs H1 h=>SqL.of h.2.1) (fun a xs H1 j ys G=>G=H1/\ys.length<=j/\aJ (RcIn H1) ys (((itR Ms r3 i2).2.take j).filter fun q=>HT.lexLt q.h.key (atP x es.length).key)) (fun a xs H1 _=>{rfl,ay _,.nil}) (fun a xs H1 hp j ys G lj pv=>?_) (fun a xs H1 hp j v ys G hj pv=>?_) (fun a xs G9 hp ys G pv p ix=>bK ?_)))
 ·obtain rfl:kG=i6:=by omega
  obtain rfl:=one kB hM;obtain⟨rfl,rfl⟩:=js.uniq tp;exact{t9,_,0,.ref ln,rfl,rfl,SqT.of jq,rfl,hR _ _ _ ⟨s9,sk,ui⟩}
 ·obtain⟨rfl,l,_⟩:=pv;have lR:=aO hp.2.2;exact{SqL.of hp.2.1,by omega}
 ·obtain⟨rfl,l,pp⟩:=pv;obtain⟨s9,sk,ui⟩:=hp;have kv:=s9 _ _ rf;obtain⟨q,hq,hR⟩:=rP ui hj;have na:(itR Ms r3 i2).2.take (j+1)=(itR Ms r3 i2).2.take j++[q]:=by rw[fZ,hq];rfl
  obtain⟨rc,kk,wl,od,hz,hP,vs,qa,rfl,g1,g2,_⟩:=id hR;refine bK {rfl,_,rfl,rc,_,0,.ref kk,rfl,rfl,SqT.of g1,rfl,_,rfl,kk,tk,q.h.key,(atP x es.length).key,rfl,rfl,SqT.of g2,SqT.of kv,_,rfl,?_};try dsimp only
  by_cases c:HT.lexLt q.h.key (atP x es.length).key=true
  ·rw[if_pos c];refine{_,rfl,rfl,by rw[ax];show ys.length+1<=j+1;omega,?_};rw[na,tK,pC (by exact c)];exact uu pp (.cons hR .nil)
  ·rw[if_neg c];refine{rfl,by omega,?_};rw[na,tK,AB (by exact c)];show aJ _ ys (_++[]);rw[cq];exact pp
 obtain⟨rfl,_,pp⟩:=pv;obtain⟨s9,sk,ui⟩:=hp;rw[aO ui,eg]at pp;have lp:=aO pp;dsimp only;have v1:=aH ix (.lst ys);have la:ys.length<=J.length:=by
  have z:=congrArg iW fs;rw[cM,<- lp]at z;omega
 refine gk {_,rfl,_,rfl,p,ys,rfl,.inl (SqL.of ah),_,rfl,ti,J,rfl,SqL.of (v1 _ _ (s9 _ _ rx)),fun p2 kh=>?_};rw[E2 la];have v2:=aH kh (.lst (J.take ys.length));have rz:=v1.trans v2;refine{_,rfl,5,by decide,xh (rs:=(itR Ms r3 i2).2.filter fun q=>HT.lexLt q.h.key (atP x es.length).key) ah (v2 _ _ ah) ?_ (Paired.mono (fun _ _ z=>RcIn.same rz z) pp),fin _ fun a o e n=>rz a o (s9 a o (rb a o e n))};rw[fs,<- lp];exact uS _ (Paired.mono (fun _ _ z=>RcIn.same rz (RcIn.same s9 z)) sd)
end
section
variable{Ms:List MD}{es:List Ev}
theorem OB(mo:lW Ms){k:Int}{i n:Nat}{e:End}(s:jg Ms (cI Ms es) k i e)(h:n<=(itR Ms (cI Ms es) i).2.length):Mrk Ms es n (itR Ms (cI Ms es) n).1:=by
 obtain⟨Y,W⟩:=EW mo s.1;refine{rfl,fun j Z=>?_,fun j Z=>{(s.1 j (by omega)).1,zv (s.1 j (by omega)).2}}
 by_cases c:j<i
 ·exact Y j c
 ·have:j=i:=by omega
  subst this;omega
theorem KO{k:Int}{i n:Nat}{e:End}{r:RS}(m:Mrk Ms es n r)(s:jg Ms (cI Ms es) k i e)(h:(n:Int)<=k):n<=(itR Ms (cI Ms es) i).2.length:=by
 have ni:n<=i:=by
  rcases jf i n with z|z
  ·have d1:=(m.d i z).2;have d2:=s.2.1;have Z:=m.l i (by omega);rw[lX d1 (by omega)]at d2
   cases d2
  ·exact z
 obtain⟨u,hu⟩:=o4 Ms (cI Ms es) n (i-n);rw[show n+(i-n)=i by omega]at hu;rw[hu,ax,m.l n (ay _)];omega
theorem KP(mo:lW Ms){n:Nat}{r:RS}(m:Mrk Ms es (n+1) r):∃q,(itR Ms (cI Ms es) (n+1)).2[n]?=some q/\r.re=some q.h/\q8 Ms.length q.h:=by
 have Z:=m.l (n+1) (ay _);have Y:=m.l n (by omega);have d:=m.d n (by omega);rw[m.e];show ∃q,((itR Ms (cI Ms es) n).2++(d8 Ms (itR Ms (cI Ms es) n).1).2)[n]?=some q/\(d8 Ms (itR Ms (cI Ms es) n).1).1.re=some q.h/\q8 Ms.length q.h;have Z:((itR Ms (cI Ms es) n).2++(d8 Ms (itR Ms (cI Ms es) n).1).2).length=n+1:=Z
 cases jk mo d.1 (eZ d.2).2.1 with
 |err h M s e d' q eq=>
  rw[eq,cq]at Z;omega
 |ok h M s w d' q N eq=>
  refine{{h,wrB M.bs w,wrQ M.qs w,w.out},?_,?_,d.1.ev h (by rw[d'.pd];exact aX _ (aA.mpr rfl))}
  ·rw[eq,cP (by omega),Y,jZ];rfl
  ·rw[eq]
theorem OC{r:RS}{x:Ev}(m:Mrk Ms es 0 r):zx r x:=fun h hh=>by
 rw[m.e]at hh
 cases hh
theorem OD{r:RS}{x:Ev}{q:Rec}(h:r.re=some q.h)(l:q.h.t<x.t):zx r x:=fun y hy=>by
 rw[h]at hy
 cases hy;show HT.lexLt (q.h.t::_) (x.t::_)=true;rw[HT.lexLt_cons,if_neg (by omega)];exact decide_eq_true l
end
theorem ks_in{kvs:List (Key×V)}{ev:Int}{q n:Nat}(h:kvs.map (·.1)=qL (q/ev.toNat) ev)(e1:1<=ev)(l:n<=q)(d:n%ev.toNat=0):(n:Int)∈rQ kvs:=by
 have e:rQ kvs=(kvs.map (·.1)).map fun k=>match k with
   |.inl n=>n
   |.inr _=>0:=by
  rw[dR];rfl
 rw[e,h];unfold qL;rw[dR];have p:0<ev.toNat:=by omega
 refine cH.mpr {n/ev.toNat,rh.mpr ?_,?_}
 ·have:=Nat.div_le_div_right (c:=ev.toNat) l;omega
 ·show ((n/ev.toNat*ev.toNat:Nat):Int)=n;rw[Nat.div_mul_cancel (Nat.dvd_of_mod_eq_zero d)]
noncomputable def Vw(l:List aa)(G:Hp):Hp:=Hid {l,fun _=>none} G
section
variable{l:List aa}{G H:Hp}{a k:aa}{o:HO}
theorem OE(h:a∈({l,fun _=>none}:Ex)):a∈l:=h.elim id fun⟨_,e,_⟩=>by cases e
theorem zA(n:a∉l)(h:G a=some o):Vw l G a=some o:=by
 unfold Vw;rw[eA fun z=>n (OE z)];exact h
theorem uU(h:Vw l G a=some o):a∉l/\G a=some o:={fun z=>gO h (.inl z),dh _ _ h}
theorem vw_le:aY (Vw l G) G:=fun _ _ e=>(uU e).2
theorem zB(s:aY H G):aY (Vw l H) (Vw l G):=fun _ _ e=>zA (uU e).1 (s _ _ (uU e).2)
theorem IP(b:But k H G)(m:k∈l):aY (Vw l H) (Vw l G):=fun _ _ e=>zA (uU e).1 (b _ _ (uU e).2 fun z=>(uU e).1 (by rw[z];exact m))
theorem DQ(m:k∈l):aY (Vw l G) (Wp k G):=fun _ _ e=>gQ (uU e).2 fun z=>(uU e).1 (by rw[z];exact m)
theorem zC{ex:Ex}(h:∀a∈l,a∈ex\/G a=none):aY (Hid ex G) (Vw l G):=fun a o e=>zA (fun z=>(h a z).elim (gO e) fun n=>by
 have:=dh _ _ e;rw[n]at this
 cases this) (dh _ _ e)
end
theorem vN{CK CM:aa}{Ms:List MD}{es:List Ev}{p m sg k dx:aa}{ev:Int}{H:Hp}{R:VK}{E:XK}(M:MoT CM Ms (Wp p H) m)(D:Rn CM Ms es (Wp p H) m sg)(e1:1<=ev)(J:ev<=100)(hk:H k=none)(U:H dx=none)
  (q:∀(G:Hp) (W Z:aa) (v:V),aY H G->G k=some (.ins CK dx (kJ (.ref W) (.ref Z) (.int ev) v))->Rn CM Ms es (Hid {[k],H} G) W Z->R .non G):Os CK CM [.ref k,.ref m,.ref sg,.int ev] (upd (upd H dx (.own k)) k (.ins CK dx [])) R E:=by
 have Y:aY H (upd (upd H dx (.own k)) k (.ins CK dx [])):=fun b o e=>by
  rw[aL (aw e hk),aL (aw e U)];exact e
 have nk:(upd (upd H dx (.own k)) k (.ins CK dx [])) k=some (.ins CK dx []):=ah;revert Y nk;generalize upd (upd H dx (.own k)) k (.ins CK dx [])=H6;intro Y nk;refine{Ms,es,k,dx,m,sg,ev,rfl,nk,(M.same (o5 _ _)).same Y,(D.same (o5 _ _)).same Y,e1,J,fun G W Z v b O I=>?_};refine q G W Z v (fun a o e=>b _ _ (Y _ _ e) (aw e hk)) O (I.same fun a o e=>?_);rw[eA fun z=>?_]
 ·exact dh _ _ e
 ·rcases z with z|⟨o',z,y⟩
  ·exact gO e (.inr {_,by rw[aA.mp z];exact nk,fun xs w=>by cases w})
  ·exact gO e (.inr {o',Y _ _ z,y})
def KeS(CK CC CM CS:aa)(Ms:List MD)(es:List Ev)(n:Nat)(l:List aa)(G:Hp)(k dx m sl:aa)(ev:Int)(ran:Prop):Prop:=∃v,G k=some (.ins CK dx (kJ (.ref m) (.ref sl) (.int ev) v))/\Rn CM Ms es (Vw l G) m sl/\(ran->∃kd kvs,v=.ref kd/\Vw l G kd=some (.dK kvs)/\Kpt CC CS m Ms es (Vw l G) kvs/\(n:Int)∈rQ kvs)
section
variable{CK CC CM CS CB:aa}{Ms:List MD}{es:List Ev}{n:Nat}{l:List aa}{G G':Hp}{k k' dx m sl:aa}{ev:Int}{ran:Prop}
theorem KeS.but(h:KeS CK CC CM CS Ms es n l G k dx m sl ev ran)(b:But k' G G')(ne:k≠k')(mem:k'∈l):KeS CK CC CM CS Ms es n l G' k dx m sl ev ran:=by
 obtain⟨v,h1,h2,W⟩:=h;have s:=IP b mem;refine{v,b _ _ h1 ne,h2.same s,fun z=>?_};obtain⟨kd,kvs,e,g1,Y,Z⟩:=W z;exact{kd,kvs,e,s _ _ g1,Y.same s,Z}
theorem KeS.ob(h:KeS CK CC CM CS Ms es n l G k dx m sl ev ran):∃v,G k=some (.ins CK dx (kJ (.ref m) (.ref sl) (.int ev) v)):=by
 obtain⟨v,h1,_⟩:=h;exact⟨v,h1⟩
theorem B5{r:RS}{Z:Int}{R:VK}{E:XK}(h:KeS CK CC CM CS Ms es n l G k dx m sl ev ran)(M:Mrk Ms es n r)(I:∀a∈l,∃o,G a=some o/\∀xs,o≠.tup xs)(mem:k∈l)(e1:1<=ev)(z:ev<=100)(V:Z<=40)(hn:(n:Int)<=Z)(d:n%ev.toNat=0)(q:∀b G',But k G G'->KeS CK CC CM CS Ms es n l G' k dx m sl ev True->R (.ref b) G'):KG CK CC CM CS CB [.ref k,.int Z] G R E:=by
 obtain⟨v,h1,h2,_⟩:=h;refine{Ms,es,k,dx,m,sl,v,ev,Z,rfl,h1,h2.same (DQ mem),e1,z,by omega,V,fun G' b bG rl kd en sv g kvs i e hS h3 H hE W O hb D J U Y kp=>?_};have hv:aY (Hid {[],G} G') (Vw l G'):=zC fun a ha=>.inl (.inr (I a ha));exact q b G' O {.ref kd,U,h2.same (IP O mem),fun _=>{kd,kvs,rfl,hv _ _ Y,kp.same hv,ks_in W e1 (by rw[aO H];exact KO M hS hn) d}}
theorem KeS.in_{F:Hp}(h:KeS CK CC CM CS Ms es n l G k dx m sl ev True)(s:aY (Vw l G) F)(o:∀o,G k=some o->F k=some o):∃kd kvs,xC CK CC CM CS Ms es F k m sl kd ev kvs/\(n:Int)∈rQ kvs:=by
 obtain⟨v,h1,h2,W⟩:=h;obtain⟨kd,kvs,rfl,g1,Y,Z⟩:=W trivial;exact{kd,kvs,{{dx,o _ h1},h2.same s,s _ _ g1,Y.same s},Z}
end
theorem orT_i{t u:L2.TT}{σ:St}{H:Hp}{Q:Bool->Hp->Prop}(c1 c2:Bool)(h1:∀R:Bool->Hp->Prop,R c1 H->t σ H R)(h2:c1=false->∀R:Bool->Hp->Prop,R c2 H->u σ H R)(q:Q (c1||c2) H):tOr t u σ H Q:=by
 refine h1 _ ?_
 cases c1 with
 |true=>exact q
 |false=>exact h2 rfl _ q
theorem OF{L i:Nat}{c:Int}(h1:1<=c)(h:i<(bJ 0 ((L:Int)+1) c).toNat):i*c.toNat<=L:=by
 unfold bJ at h;rw[if_pos (by omega),if_pos (by omega)]at h;have e:((L:Int)+1-0-1)/c=((L/c.toNat:Nat):Int):=by
  rw[show (L:Int)+1-0-1=(L:Int) by omega]
  conv=>lhs;rw[show c=((c.toNat:Nat):Int) by omega]
  exact (Int.natCast_ediv _ _).symm
 rw[e]at h;have:i<=L/c.toNat:=by omega
 exact (Nat.le_div_iff_mul_le (by omega)).mp this
theorem KeS.imp{CK CC CM CS:aa}{Ms:List MD}{es:List Ev}{n:Nat}{l:List aa}{G:Hp}{k dx m sl:aa}{ev:Int}{ran ran':Prop}(h:KeS CK CC CM CS Ms es n l G k dx m sl ev ran)(f:ran'->ran):KeS CK CC CM CS Ms es n l G k dx m sl ev ran':=by
 obtain⟨v,h1,h2,Z⟩:=h;exact{v,h1,h2,fun z=>Z (f z)}
theorem KeS.rn{CK CC CM CS:aa}{Ms:List MD}{es:List Ev}{n:Nat}{l:List aa}{G:Hp}{k dx m sl:aa}{ev:Int}{ran:Prop}(h:KeS CK CC CM CS Ms es n l G k dx m sl ev ran):Rn CM Ms es (Vw l G) m sl:=by
 obtain⟨v,h1,h2,Z⟩:=h;exact h2
theorem zD{A B:Hp}{a:aa}(s:aY A B)(h:B a=none):A a=none:=by
 cases e:A a with
 |none=>rfl
 |some o=>
  have:=s _ _ e;rw[h]at this
  cases this
theorem yt{A:Hp}{a b:aa}{o:HO}(h:A a=some o)(n:A b=none):a≠b:=fun z=>by
 rw[z,n]at h
 cases h
theorem KQ{P:aa->Prop}{a b c d:aa}(ha:P a)(hb:P b)(hc:P c)(hd:P d):∀x∈[a,b,c,d],P x:=fun x hx=>by
 rcases ar.mp hx with rfl|hx
 ·exact ha
 rcases ar.mp hx with rfl|hx
 ·exact hb
 rcases ar.mp hx with rfl|hx
 ·exact hc
 rcases ar.mp hx with rfl|hx
 ·exact hd
 cases hx
theorem tE{G:Hp}{p:aa}(h:dE G p):∃o,G p=some o/\∀xs,o≠.tup xs:=by
 obtain⟨x,y,e⟩:=h;exact{_,e,fun xs z=>by cases z}
end My
namespace L2
open PySem PySem.Spec PyProof.Rows
def Its(lo sp_:Int)(n:Nat):It:={fun i _=>i<n,fun i H x H'=>H'=H/\x=.int (lo+i*sp_),fun i _=>n<=i}
theorem AR{P:aK}{w:bD}{K:ae}{tg:cS}(it:aa)(lo sp_:Int)(n:Nat):A6 P w K tg (Its lo sp_ n) [it] it (fun i h=>zJ h it (lo+(i:Nat)*sp_) ((n:Int)-(i:Nat)) sp_) where
 mem:=by simp
 obj:=fun i h st b hb=>by
  have e:b=it:=by simpa using hb
  subst e;exact{_,st,fun v z=>by
   have z':Data.fields _=Data.cell v:=z
   cases z'}
 keep:=fun i h h' st k=>k it (by simp) _ st
 item:=by
  intro X g hw J hc i pins s σ H E I Y st U;subst g hw J;obtain⟨O,f1,f2,V,M,D⟩:=Y it (by simp);have W:=OL (prog:=X.prog) (w:=X.w) (I.ok.hd hc) it lo sp_ n;refine W.item i s _ _ U st fun v h' tk hv Z kk=>?_;obtain⟨t,rfl⟩:=hv;have I1:Inv X pins σ H {s with heap:=h',toks:=tk}:=I.turned (fun b o hb e=>kk b o (by simpa using hb) e) O f1 V M D;refine{_,rfl,B8 (s:={s with heap:=h',toks:=tk}) (n:="range_iterator") Z rfl rfl (by decide) {.int (lo+i*sp_),H,I1,⟨t,rfl⟩,⟨rfl,rfl⟩,Z,fun b hb=>(Y b hb).1}}
 done:=by
  intro X g hw J hc i pins s σ H E I Y st U;subst g hw J;obtain⟨O,f1,f2,V,M,D⟩:=Y it (by simp);exact Fu (I.ok.hd hc) st (by have:n<=i:=U;omega) fun h' eb=>{rfl,I.turned (t':=s.toks) (fun b o hb e=>eb b o hb e) O f1 V M D}
 self:=fun _ _ _ _ _ st h=>Fv st h
section
variable{X:Cx}{tg:cS}
theorem E4{pins:List (aa×Obj)}{σ:St}{H:Hp}{s:ak}{R:It->Hp->Prop}{E:af->ak->Prop}{lo hi sp_:Int}{t u v:Tok}{tk:Nat}(I:Inv X pins σ H s)(Y:jU lo hi sp_=true)(h0:0<=bJ lo hi sp_)
  (q:R (Its lo sp_ (bJ lo hi sp_).toNat) H):aW (aZ X.prog X.w) X.A (pyIter (.ref s.heap.objs.size)) (PIE X pins σ tg R) E {s with heap:=s.heap.push {cls:=.type "range",data:=.fields #[.int lo t,.int hi u,.int sp_ v]},toks:=tk}:=by
 refine MK (K5 ..) Y ?_;have Z:Inv X pins σ H {s with heap:=s.heap.push {cls:=.type "range",data:=.fields #[.int lo t,.int hi u,.int sp_ v]},toks:=tk}:=I.kept fun b o e=>aI _ e;refine{(s.heap.push {cls:=.type "range",data:=.fields #[.int lo t,.int hi u,.int sp_ v]}).objs.size,[(s.heap.push {cls:=.type "range",data:=.fields #[.int lo t,.int hi u,.int sp_ v]}).objs.size],_,_,H,rfl,
  Z.kept (t':=tk) fun b o e=>aI _ e,AR _ lo sp_ (bJ lo hi sp_).toNat,?_,fun b hb=>?_,q}
 ·have e1:lo+((0:Nat):Int)*sp_=lo:=by simp
  have W:(((bJ lo hi sp_).toNat:Nat):Int)-((0:Nat):Int)=bJ lo hi sp_:=by omega
  show zJ _ _ (lo+((0:Nat):Int)*sp_) ((((bJ lo hi sp_).toNat:Nat):Int)-((0:Nat):Int)) sp_;rw[e1,W];exact cz _ rfl
 ·have e:b=(s.heap.push {cls:=.type "range",data:=.fields #[.int lo t,.int hi u,.int sp_ v]}).objs.size:=by simpa using hb
  subst e;exact Z.fpOk (ay _) (Z.hok.fresh (ay _))
def iRng3(ta:TA):TI:=fun σ H R=>ta σ H fun vs H1=>∃i j c:Int,vs=[.int i,.int j,.int c]/\1<=c/\c<=1000/\jU i j c=true/\0<=bJ i j c/\R (Its i c (bJ i j c).toNat) H1
theorem E5{a b c:cS}{ta:TA}{p pos:Pos}(U:Gl X "range")(hm:X.mg "range"=none)(ha:PA X [a,b,c] ta)(hs:cE [a,b,c] X.env=(false,gf a X.env)::cE [b,c] X.env:=by rfl)(Y:cE [b,c] X.env=[(false,gf b X.env),(false,gf c X.env)]:=by rfl) :
  PI X tg (.Call (.Name "range" p) [a,b,c] [] pos) (iRng3 ta):=by
 intro pins s σ H R I h;refine Call_ (rD I U hm boot_range (ib (thn (ha pos pins s σ H _ I h) fun us D ⟨vs,H1,M,r1,W⟩=>?_) hs (by rw[Y];rfl)));obtain⟨i,j,k,e,W,z,V,O,q⟩:=W;subst e
 cases r1 with
 |cons r Z=>
  cases Z with
  |cons J Z=>
   cases Z with
   |cons r2 Z=>
    cases Z;obtain⟨t,rfl⟩:=r;obtain⟨t',rfl⟩:=J;obtain⟨g,rfl⟩:=r2;exact call_range_3 (by omega) (E4 M V O q) (.inl (yE (by omega)))
end
theorem B6{lo sp_:Int}{n:Nat}{g:TG}{tb:TS}{D:mY}{σ:St}{H:Hp}(Z:Nat->St->Hp->Prop)(h0:Z 0 σ H)
  (hs:∀i σ H,i<n->Z i σ H->g (.int (lo+i*sp_)) σ H fun Y H2=>tb {D with nx:=Z (i+1),ct:=Z (i+1),bk:=D.nx} Y H2) (hd:∀σ H,Z n σ H->D.nx σ H) :
  ∃W:Nat->Nat->St->Hp->Prop,(∃m,W 0 m σ H)/\∀i m σ H,W i m σ H ->
   ((Its lo sp_ n).stop i H/\D.nx σ H)\/((Its lo sp_ n).go i H/\∃N:St->Hp->Prop,(∀U H',N U H'->∃O,O<m/\W (i+1) O U H')/\∀x H',(Its lo sp_ n).yld i H x H'->g x σ H' fun Y H2=>tb {D with nx:=N,ct:=N,bk:=D.nx} Y H2):=by
 refine{fun i m σ H=>m=n-i/\i<=n/\Z i σ H,{n,by simp,bV _,h0},?_};rintro i m σ H ⟨rfl,hi,p⟩
 by_cases V:i<n
 ·refine .inr {V,Z (i+1),fun U H' M=>{n-(i+1),by omega,rfl,V,M},fun x H' y=>?_};obtain⟨e,y⟩:=y;subst e y;exact hs i σ _ V p
 ·have e:i=n:=by omega
  subst e;exact .inl {ay _,hd σ H p}
theorem E6{a b c:Int}(h1:1<=c)(h2:c<=1000)(V:0<=a)(O:a<=1000000)(Y:0<=b)(W:b<=1000000):jU a b c=true/\0<=bJ a b c:=by
 have e:bJ a b c=if a<b then (b-a-1)/c+1 else 0:=by
  unfold bJ;rw[if_pos (by omega)]
 have Z:0<=bJ a b c/\bJ a b c<=1000001:=by
  rw[e]
  split
  ·have U:0<=(b-a-1)/c:=Int.ediv_nonneg (by omega) (by omega);have d1:(b-a-1)/c<=b-a-1:=Int.ediv_le_self c (by omega);omega
  ·omega
 refine{?_,Z.1};unfold jU;generalize bJ a b c=z at Z;simp only[Builtin.Range.rangeFitsLong,jb,KS,decide_eq_true_eq,beq_iff_eq];rw[if_pos (by omega)];refine{by omega,.inr ?_};rw[jb,decide_eq_true_eq,decide_eq_true_eq];omega
end L2
namespace My
open PySem L2
section
variable{P:aK}{w:bD}{K:ae}{mg:Str->Option af}{base:cB}{f fP fD fW fMs fSs fSg fMI fKi fKr fGd CK CC CM CS CB:aa}{fd fdP fdD fdW fdMs fdSs fdSg fdMI fdKi fdKr fdGd:bU}
seal PS PSs PE PA PT PW PI PG PGs PC
abbrev nL:List Str:=["_law_script","_law_purse_here","_law_machines_here","_law_signs_here","_law_model","_law_every","_law_records","_law_number","_law_sign_here","_law_most","_law_keepers","_law_keeper"]
abbrev pL:List Str:=["_law_script"]
theorem scL:bO nL pL (aN GY):={}
inductive IQ(K:ae)(vs:List V)(H:Hp)(Q:VK)(_e:XK):Prop where
 |mk(a:aa)(ns:List Int)(_:vs=[.ref a])(_:SqL K H a (ns.map V.int))(_:ns.length<=63)(_:(∀x∈ns,fb x<=1048576))(_:∀H',Q (.bl true) H'):IQ K vs H Q _e
def DV(K:ae):Sp:=fun vs H Q Z=>IQ K vs H Q Z
theorem OG(D:Df K mg "law" GY pL f fd)(DP:Df K mg "_law_purse" mO ["_law_script"] fP fdP)(GP:bC P w K mg base CX0 2 fP fdP ["_law_script"] (Du K))(DD:Df K mg "_law_draw" eJ pD fD fdD)(DW:Df K mg "_law_worth" fY pW fW fdW)(vo:Df K mg "_law_machines" hW pMs fMs fdMs)(oc:bC P w K mg base CX0 14 fMs fdMs pMs spMs)(ur:Df K mg "_law_signs" kC pSs fSs fdSs)(nc:bC P w K mg base CX0 4 fSs fdSs pSs spSs)(DC:Df K mg "_law_sign" lQ pSg fSg fdSg)
  (nT:Mk K CM fMI) (mx:bC P w K mg base CX0 31 fMI fdMI ["self","machines"] (Nv CM 29)) (mr:Binds K fdMI ["self","machines"] [])
  (BS:Mk K CK fKi) (Cl:bC P w K mg base CX0 33 fKi fdKi pKi (Os CK CM)) (DA:Binds K fdKi pKi []) (MR:Mt K CK "run" "Keeper.run" iS pKr fKr fdKr) (rf:bC P w K mg base CX0 40 fKr fdKr pKr (KG CK CC CM CS CB)) (uG:Df K mg "_law_good" jY pGd fGd fdGd) (ov:bC P w K mg base CX0 42 fGd fdGd pGd (spGd CK CC CM CS)) (TM:MdT K mg CM CS) (TK:KeT K mg CK) (TB:BkT K mg CB) (B:Bl mg) (MM:mg "min"=none):bC P w K mg base CX0 43 f fd pL (DV K):=by
 have GD:bC P w K mg base CX0 1 fD fdD pD j5:=j9 DD;have pq:bC P w K mg base CX0 3 fSg fdSg pSg Ol:=LZ DC DD DW B;refine D.F.ok scL (fun vs H Q E h=>?_) (fun lM A outer s H vs Q E hr h=>?_)
 ·obtain⟨a,ns,rfl,_⟩:=h;rfl
 obtain⟨sa,ns,rfl,mq,pw,mz,fin⟩:=h;have lF:=Eu hr;have r1:cX 1 _:=hr.mono (by decide);have r2:cX 2 _:=hr.mono (by decide);have r3:cX 3 _:=hr.mono (by decide);have r4:cX 4 _:=hr.mono (by decide);have mu:cX 14 _:=hr.mono (by decide);have nz:cX 32 _:=hr.mono (by decide);have DE:cX 34 _:=hr.mono (by decide);have sB:cX 40 _:=hr.mono (by decide);have nl:cX 42 _:=hr;refine{_,aj (bE (i:=1) scL.nd rfl (Or.inl rfl) (aM GP r2 (by rfl) DP.m DP.F.kp DP.b .nil bh (bf (pv 0) ai)))
  (aj (bE (i:=2) scL.nd rfl (Or.inl rfl) (aM oc mu (by rfl) vo.m vo.F.kp vo.b .nil bh (bf (pv 1) ai)))
  (aj (bE (i:=3) scL.nd rfl (Or.inl rfl) (aM nc r4 (by rfl) ur.m ur.F.kp ur.b .nil bh (bf (pv 1) (iw (cO (eB K (by rfl)) (by rfl) B.len cb (bf (pv 2) ai)) ai))))
  (aj (bE (i:=4) scL.nd rfl (Or.inl rfl) (iN nT mx nz (by rfl) TM.mM mr .nil bh (bf (pv 2) ai)))
  (aj (bE (i:=5) scL.nd rfl (Or.inl rfl) (cL gK au (aM GD r1 (by rfl) DD.m DD.F.kp DD.b .nil bh (bf (pv 1) (dP au ai)))))
  (aj (bE (i:=6) scL.nd rfl (Or.inl rfl) (eE K (by rfl) (eT (iN BS Cl DE (by rfl) TK.m DA .nil bh (bf (pv 4) (bf (pv 3) (bf (pv 5) ai)))) TK.cl MR.m rf sB MR.b .nil bh (iw (aM GD r1 (by rfl) DD.m DD.F.kp DD.b .nil bh (bf (pv 1) (dP au ai))) ai)) (by rfl)))
  (aj (jA cY rfl (E5 (by rfl) B.range (dP au (oA (cL gK (cO (eB K (by rfl)) (by rfl) B.len cb (bf (pv 6) ai)) au) (bf (pv 5) ai)))) (dS (i:=7) scL.nd rfl (Or.inl rfl)) (aj (bE (i:=8) scL.nd rfl (Or.inl rfl) (aM pq r3 (by rfl) DC.m DC.F.kp DC.b .nil bh (bf (pv 1) (iw (cO (eB K (by rfl)) (by rfl) B.len cb (bf (pv 2) ai)) ai))))
  (aj (cW (bN sj (pv 7) au (bY _)) (aD (bE (i:=8) scL.nd rfl (Or.inl rfl) (cL Ck (d9 (iw (cO (xO rfl) (by rfl) MM yq (oA (cL rJ au au) (oA (cL gK (cL gK (bR cv (bR cv (bR dB (pv 6) (cL jn (pv 7) au) (fun _ _=>rfl)) au (fun _ _=>rfl)) au (fun _ _=>rfl)) au) (aM GD r1 (by rfl) DD.m DD.F.kp DD.b .nil bh (bf (pv 1) (dP au ai)))) ai))) ai)) (sE MZ (pv 8) (vn au) vm)))) cj)
  (aD (cW ((Fp (bN fh (pv 7) au (bY _)) (A4 (bN sj (bR cv (pv 8) au (fun _ _=>rfl)) (bR cv (bR cv (bR dB (pv 6) (cL jn (pv 7) au) (fun _ _=>rfl)) au (fun _ _=>rfl)) au (fun _ _=>rfl)) (bY _)))).pt) (aj (bE (i:=9) scL.nd rfl (Or.inl rfl) (aM GD r1 (by rfl) DD.m DD.F.kp DD.b .nil bh (bf (pv 1) (dP au ai))))
  (aj (bE (i:=10) scL.nd rfl (Or.inl rfl) (eQ (iw (iN BS Cl DE (by rfl) TK.m DA .nil bh (bf (pv 4) (bf (pv 3) (bf (pv 5) ai)))) (iw (iN BS Cl DE (by rfl) TK.m DA .nil bh (bf (pv 4) (bf (pv 3) (dP au ai)))) (iw (iN BS Cl DE (by rfl) TK.m DA .nil bh (bf (pv 4) (oA (cL wc (pv 3) (eQ (bf (pv 8) ai))) (bf (pv 5) ai)))) ai)))))
  (aj (jA cY rfl (iM (pv 10)) (dS (i:=11) scL.nd rfl (Or.inl rfl)) (aD (eR (eT (pv 11) TK.cl MR.m rf sB MR.b .nil bh (oA (cL gK (pv 7) (pv 5)) ai)))))
  (aD (cW (A5 (tL (aM ov nl (by rfl) uG.m uG.F.kp uG.b .nil bh (qI (bR dB (pv 10) au (fun _ _=>rfl)) (qI (bR dB (pv 10) au (fun _ _=>rfl)) (qI (bR dB (pv 10) au (fun _ _=>rfl)) (bf (pv 4) (bf (pv 3) (bf (pv 8) (bf (pv 7) (bf (pv 9) ai))))))))))) (aD (bQ nC)) cj))))) cj)))))
  (aD (bQ nC)))))))),?_}
 have big:=eD
 -- the purse, the machines, the signs
 refine cy (cZ {_,rfl,sa,ns,rfl,mq,pw,mz,fun p H1 np sM s1=>bK ?_});dsimp only;refine cy (cZ {_,rfl,p,rfl,sM,fun ml xs Ms H2 ws vb m0 m6 vl vu b2=>bK ?_});dsimp only;have lx:=aO vb;refine cy (cZ {_,rfl,_,rfl,ml,_,rfl,.inl (SqL.of ws),p,Ms.length,(by show [V.ref p,V.int (xs.length:Int)]=_;rw[lx]),vu,m0,by omega,fun ol mv es H3 sF ro oi pM rx BT b3=>bK ?_});dsimp only;have J:=b3 _ _ ws vl;have wS:=Paired.mono (fun v M z=>MIn.but sM vu b3 z) vb;clear vb ws b2 vu b3 s1
 -- the aZ
 refine cy (cZ (uh {_,rfl,fun m Gg hm EQ sK=>?_}));have sA:aY H3 (upd (upd H3 Gg (.own m)) m (.ins CM Gg [])):=fun b o e=>by
  rw[aL (aw e hm),aL (aw e EQ)];exact e
 have Gy:aJ (MIn Ms.length H1 (upd (upd H3 Gg (.own m)) m (.ins CM Gg []))) xs Ms:=Paired.mono (fun v M z=>by
  obtain⟨t,e,y⟩:=z;exact{t,e,y.same sA}) wS
 refine{m,Gg,.ref ml,rfl,ah,Dz (sA _ _ J) Gy (by omega),fun v' G5 s5 al=>{rfl,bK ?_}};obtain⟨pe,rfl,si⟩:=Ks (sA _ _ J) Gy al;have sf:=Alike.tree (Dz (sA _ _ J) Gy (by omega)) al;have FI:aY H3 (upd G5 m (.ins CM Gg (cJ "machines" (.ref pe) []))):=sW (sA.trans s5) hm _;dsimp only
 -- how often a mark is kept
 refine cy (cZ {_,rfl,p,7,rfl,BT.same FI,by decide,by decide,fun ev G6 mb lA DM b6=>{_,_,rfl,rfl,bK ?_}});have pn:H3 p≠none:=fun z=>by
  obtain⟨x,y,e⟩:=BT;rw[z]at e
  cases e
 have M6:MoT CM Ms (Wp p G6) m:=(mo_h hm sK pn si sf b6).same (IK BT);have R6:Rn CM Ms es (Wp p G6) m ol:={M6.at,by omega,{mv,gQ (b6 _ _ (FI _ _ sF) rx) rx,Paired.mono (fun v e z=>by
  obtain⟨t',e',h⟩:=z.same FI;have h':=dX.but (BT.same FI) b6 _ _ h (nA _);refine{t',e',gQ h' fun z=>?_};obtain⟨x,y,h2⟩:=DM;rw[z,h2]at h'
  cases h') ro},by omega,pM}
 have xv:Wp p G6 ml=some (.lst xs):=gQ (b6 _ _ (FI _ _ J) vl) vl;clear si sf al s5 Gy sA hm EQ sK wS J FI b6 sF ro pn;dsimp only
 -- the records of a first keeper
 refine cy (cZ {_,rfl,_,rfl,_,rfl,fun k pR hk EQ _=>vN M6 R6 (by omega) (by omega) hk EQ fun G7 m' rz v s7 wi R7=>{rfl,?_}});have ww:p≠k:=fun z=>by
  obtain⟨x,y,e⟩:=DM;rw[z,hk]at e
  cases e
 refine{k,pR,_,rfl,wi,qK _ _ _ _ (by decide +kernel),_,rfl,p,20,rfl,DM.same s7,by decide,by decide,fun my G8 oL mf ut b8=>?_};refine tj ?_;have ip:p∈({[k],G6}:Ex):=by
  obtain⟨x,y,e⟩:=DM;exact .inr {_,e,fun xs z=>by cases z}
 have R8:Rn CM Ms es (Wp k G8) m' rz:=R7.same fun a o e=>by
  have na:=gO e;exact gQ (b8 _ _ (dh _ _ e) fun z=>na (by rw[z];exact ip)) fun z=>na (by rw[z];exact .inl (aA.mpr rfl))
 refine{Ms,es,k,pR,m',rz,v,1+ev,my,rfl,b8 _ _ wi ww.symm,R8,by omega,by omega,by omega,by omega,fun G9 b py rl kd en sv g kvs i0 e0 wn rr wf _ _ b9 qb qr lr _ _ _=>?_};refine{b,CB,py,_,_,rfl,qb,TB.cl,TB.nR,NX _ _ _,bK ?_};dsimp only;have mo:=M6.at.ok;have md:=oB mo wn oL;have lR:=aO wf;have pr:dE G9 p:=by
  obtain⟨x,y,e⟩:=ut;exact{x,y,b9 _ _ e ww}
 have CY:aY (Wp p G6) (Wp p G9):=fun a o e=>by
  obtain⟨n,h⟩:=uR e;exact gQ (b9 _ _ (b8 _ _ (s7 _ _ h) n) (aw h hk)) n
 have hw:=IK (G':=G9) ut;have M9:=M6.same CY;have R9:=R6.same CY;have rb:=CY _ _ xv;have At:=hw _ _ rr;have nf:=Paired.mono (fun _ _ z=>RcIn.same hw z) wf;clear M6 R6 xv hw rr wf R8 R7 wi s7 hk EQ b8 b9 CY ut DM ip ww qb
 -- the marks one by one
 have rg:=E6 (a:=0) (b:=(g.length:Int)+1) (c:=1+ev) (by omega) (by omega) (by omega) (by omega) (by omega) (by omega);refine cy {_,rfl,rl,g,rfl,.inl (SqL.of qr),_,_,rfl,rfl,_,rfl,0,(g.length:Int)+1,1+ev,rfl,by omega,by omega,rg.1,rg.2,?_};refine B6 (lo:=0) (sp_:=1+ev) (n:=(bJ 0 ((g.length:Int)+1) (1+ev)).toNat) (fun i σ G=>∃u7 u8 u9 CU Gk:Option V,σ=[some (.ref sa),some (.ref p),some (.ref ml),some (.ref ol),some (.ref m),some (.int (1+ev)),some (.ref rl),u7,u8,u9,CU,Gk]/\dE G p/\aY (Wp p G9) (Wp p G)) {_,_,_,_,_,rfl,pr,aY.refl _} ?_ ?_
 ·rintro i σ G hi ⟨u7,u8,u9,CU,Gk,rfl,ti,sG⟩;refine bK ?_;dsimp only;have pp:=OF (by omega) hi;obtain⟨n,hn,hd⟩:∃n:Nat,n=i*(1+ev).toNat/\n%(1+ev).toNat=0:={_,rfl,Nat.mul_mod_left _ _};have en:(0:Int)+(i:Int)*(1+ev)=(n:Int):=by
   rw[hn,Int.natCast_mul,show (((1+ev).toNat:Nat):Int)=1+ev by omega];omega
  rw[en];rw[<- hn]at pp;clear hn en hi;have hM:=OB mo wn (n:=n) (by omega);obtain⟨ht,Fr⟩:∃ht:Int,0<n->∃(v:V) (q:Rec),atI g ((n:Int)-1)=some v/\RcIn (Wp p G9) v q/\q.h.t=ht/\q8 Ms.length q.h/\(itR Ms (cI Ms es) n).1.re=some q.h:=by
   cases n with
   |zero=>exact{0,fun z=>absurd z (by omega)}
   |succ n=>
    obtain⟨q,h1,h2,h3⟩:=KP mo hM;have h4:(itR Ms (cI Ms es) i0).2[n]?=some q:=by
     obtain⟨b1,b2⟩:=EW mo wn.1;obtain⟨u,hu⟩:=o4 Ms (cI Ms es) (n+1) (i0-(n+1));rw[show n+1+(i0-(n+1))=i0 by omega]at hu;rw[hu,eM (by rw[hM.l (n+1) (ay _)];omega)];exact h1
    obtain⟨v,g1,g2⟩:=jw nf h4;refine{q.h.t,fun _=>{v,q,?_,g2,rfl,h3,h2}};rw[show (((n+1:Nat):Int)-1)=(n:Int) by omega];exact jD g1
  have w9:∀{G':Hp},aY (Wp p G9) (Wp p G')->aY (Wp p G9) G':=fun s=>s.trans (o5 _ _)
  -- the sign
  refine cy (cZ {_,rfl,_,rfl,ml,xs,rfl,.inl (SqL.of (w9 sG _ _ rb)),p,Ms.length,(by show [V.ref p,V.int (xs.length:Int)]=_;rw[lx]),ti,m0,by omega,fun mn x0 Ga sZ DO vr ba=>bK ?_});dsimp only;have Ci:=sG.trans ba.wp;refine vh (fun ss G'=>∃(sv:V) (x:Ev),ss=[some (.ref sa),some (.ref p),some (.ref ml),some (.ref ol),some (.ref m),some (.int (1+ev)),some (.ref rl),some (.int n),some sv,u9,CU,Gk]/\pO G' sv x/\q8 Ms.length x/\dE G' p/\aY (Wp p G9) (Wp p G')) ?_ ?_
  ·rintro ss Gb ⟨sv,x,rfl,hs,hx,Ge,DB⟩;refine iz (orT_i (decide (V.int (n:Int)=V.int 0)) (decide (ht<x.t)) (fun R hR=>{_,rfl,rfl,_,rfl,hR}) (fun c R hR=>?_) ?_)
   ·have n1:0<n:=by
     rcases IR n with z|z
     ·subst z
      cases c
     ·exact z
    obtain⟨v,q,g1,g2,rfl,g4,g5⟩:=Fr n1;obtain⟨rc,kk,wl,od,mm,oT,vs,qa,rfl,y1,y2,_⟩:=id (RcIn.same (w9 DB) g2);obtain⟨ts,rfl,W⟩:=id hs;exact{_,rfl,ts,_,0,.int x.t,rfl,rfl,SqT.of W,rfl,_,rfl,_,rfl,_,_,rfl,rfl,rl,g,(n:Int)-1,.ref rc,rfl,rfl,SqL.of (w9 DB _ _ At),g1,rc,_,0,.ref kk,rfl,rfl,SqT.of y1,rfl,kk,_,0,.int q.h.t,rfl,rfl,SqT.of y2,rfl,_,_,rfl,rfl,_,rfl,hR}
   by_cases c:(decide (V.int (n:Int)=V.int 0)||decide (ht<x.t))=true
   ·rw[c];refine iA ?_;have pa:zx (itR Ms (cI Ms es) n).1 (atP x es.length):=by
     rcases IR n with z|z
     ·subst z;exact OC hM
     ·obtain⟨v,q,g1,g2,rfl,g4,g5⟩:=Fr z;refine OD g5 ?_
      rcases KS _ _ ▸ c with y|y
      ·exfalso;have y:=of_decide_eq_true y;injection y with y;omega
      ·exact of_decide_eq_true y
    refine cy (cZ {_,rfl,p,10,rfl,Ge,by decide,by decide,fun mt Gc nh mc I bc=>bK ?_});dsimp only;have wh:=DB.trans bc.wp;have sH:pO (Wp p Gc) sv x:=by
     obtain⟨ts,rfl,W⟩:=hs;have DF:ts≠p:=fun z=>by
      obtain⟨a,b,e⟩:=Ge;rw[z,e]at W
      cases W
     exact{ts,rfl,gQ (bc _ _ W DF) DF}
    have Mc:=M9.same wh;have Rc:=R9.same wh;clear bc hs Ge
    -- three keepers
    refine cy (cZ {_,rfl,_,rfl,_,rfl,fun k0 tn DN yx _=>vN Mc Rc (by omega) (by omega) DN yx fun G1 tt tz v0 s1 Gd R0=>{rfl,?_}});refine{_,rfl,_,rfl,fun k1 ui DR zn _=>vN (Mc.same (mV s1)) (Rc.same (mV s1)) (by decide) (by decide) DR zn fun G2 we va v1 s2 AT R1=>{rfl,?_}};have CP:=s1.trans s2;obtain⟨O,yr,DU⟩:=(Rc.same (mV CP)).sg;have sd:=aO DU;refine{_,rfl,_,rfl,_,rfl,by show 1<=aB;omega,fun l1 ra=>?_};have t1:=aH ra (.lst [sv]);refine{ol,l1,O,[sv],rfl,rfl,t1 _ _ (uR yr).2,ah,by show O.length+1<=aB;omega,fun l2 BW=>?_};have t2:=aH BW (.lst (O++[sv]));have tA:=t1.trans t2;have Gt:=kN BW (.lst (O++[sv]));have rm:l2≠p:=q9 ((I.same CP).same t1) BW;revert tA Gt;clear t2 t1 ra BW;generalize upd (upd G2 l1 (.lst [sv])) l2 (.lst (O++[sv]))=G2';intro tA Gt;have DL:=CP.trans tA;have M3:=Mc.same (mV (p:=p) DL);have R3:Rn CM Ms (es++[x]) (Wp p G2') m l2:={M3.at,Rc.lm,{_,gQ Gt rm,uu (Paired.mono (fun _ _ z=>pO.same (mV tA) z) DU) (.cons (sH.same (mV DL)) .nil)},by rw[ax];show es.length+1<64;omega,fun e he=>(bM.mp he).elim (fun z=>pM e z) fun z=>by rw[aA.mp z];exact hx};refine{_,rfl,fun k2 tq wv xz _=>vN M3 R3 (by omega) (by omega) wv xz fun G3 wP vf v2 s3 vq R2=>{rfl,by show 3<=aB;omega,fun kl Z=>bK ?_}};have s4:=aH Z (.lst [V.ref k0,.ref k1,.ref k2]);have Gx:=kN Z (.lst [V.ref k0,.ref k1,.ref k2]);have z2:G2 k2=none:=zD tA wv;have Ch:G1 k2=none:=zD s2 z2;have sD:Gc k1=none:=zD s1 DR;have rv:Gc k2=none:=zD s1 Ch;have sx:p≠k0:=(q9 I DN).symm;have mW:p≠k1:=(q9 I sD).symm;have pi:p≠k2:=(q9 I rv).symm;have tp:k0≠k1:=yt Gd DR;have wE:k0≠k2:=yt Gd Ch;have ri:k1≠k2:=yt AT z2;have ub:=s3 _ _ (tA _ _ (s2 _ _ Gd));have wO:=s3 _ _ (tA _ _ AT);have px:k0≠kl:=yt ub Z;have pk:k1≠kl:=yt wO Z;have ry:k2≠kl:=yt vq Z;have no:∀{A:Hp} {a C dx:aa} {fs:List (Str×V)},A a=some (.ins C dx fs)->∃o,A a=some o/\∀xs,o≠.tup xs:=fun h=>{_,h,fun xs z=>by cases z};have S0:KeS CK CC CM CS Ms es n [p,k0,k1,k2] (upd G3 kl (.lst [V.ref k0,.ref k1,.ref k2])) k0 tn tt tz (1+ev) (0<0):={v0,s4 _ _ ub,(R0.same (zC (KQ (.inl (.inr (tE I))) (.inl (.inl (aA.mpr rfl))) (.inr DR) (.inr Ch)))).same (zB (s2.trans (tA.trans (s3.trans s4)))),fun z=>absurd z (by decide)};have S1:KeS CK CC CM CS Ms es n [p,k0,k1,k2] (upd G3 kl (.lst [V.ref k0,.ref k1,.ref k2])) k1 ui we va 1 (1<0):={v1,s4 _ _ wO,(R1.same (zC (KQ (.inl (.inr (tE (I.same s1)))) (.inl (.inr (no Gd))) (.inl (.inl (aA.mpr rfl))) (.inr z2)))).same (zB (tA.trans (s3.trans s4))),fun z=>absurd z (by decide)};have S2:KeS CK CC CM CS Ms (es++[x]) n [p,k0,k1,k2] (upd G3 kl (.lst [V.ref k0,.ref k1,.ref k2])) k2 tq wP vf (1+ev) (2<0):={v2,s4 _ _ vq,(R2.same (zC (KQ (.inl (.inr (tE (I.same DL)))) (.inl (.inr (no (tA _ _ (s2 _ _ Gd))))) (.inl (.inr (no (tA _ _ AT)))) (.inl (.inl (aA.mpr rfl)))))).same (zB s4),fun z=>absurd z (by decide)};have Db:=DL.trans (s3.trans s4);have wm:=I.same Db;revert S0 S1 S2 Db wm Gx;clear s4 R0 R1 R2 R3 M3 ub wO Gd AT vq Z DL tA CP s1 s2 s3 Gt z2 Ch DR wv DU yr sd rm yx zn xz;generalize upd G3 kl (.lst [V.ref k0,.ref k1,.ref k2])=G4;intro Gx S0 S1 S2 Db wm;dsimp only;have Y:k0∈[p,k0,k1,k2]:=by simp
    have DS:k1∈[p,k0,k1,k2]:=by simp
    have Fa:k2∈[p,k0,k1,k2]:=by simp
    obtain⟨oe,_⟩:=hM.fork mo hx pa;have bP:∀{k:aa} {A A':Hp},p≠k->But k A A'->dE A p->dE A' p:=fun ne b ⟨x,y,e⟩=>{x,y,b _ _ e ne};have bS:∀{k:aa} {A A':Hp},Gc k=none->But k A A'->aY Gc A->aY Gc A':=fun z b s a o e=>b _ _ (s _ _ e) (aw e z)
    -- their runs
    refine cy {_,rfl,kl,rfl,{_,SqL.of Gx},?_};refine jB (K:=K) (a:=kl) (xs:=[.ref k0,.ref k1,.ref k2]) (fun j σ G=>∃Gk:Option V,σ=[some (.ref sa),some (.ref p),some (.ref ml),some (.ref ol),some (.ref m),some (.int (1+ev)),some (.ref rl),some (.int n),some sv,some (.int mt),some (.ref kl),Gk]/\dE G p/\aY Gc G/\G kl=some (.lst [.ref k0,.ref k1,.ref k2])/\KeS CK CC CM CS Ms es n [p,k0,k1,k2] G k0 tn tt tz (1+ev) (0<j)/\KeS CK CC CM CS Ms es n [p,k0,k1,k2] G k1 ui we va 1 (1<j)/\KeS CK CC CM CS Ms (es++[x]) n [p,k0,k1,k2] G k2 tq wP vf (1+ev) (2<j)) {_,rfl,wm,Db,Gx,S0,S1,S2} ?_ ?_ ?_
    ·rintro j σ G5 _ ⟨u,rfl,_,_,h,_⟩;exact SqL.of h
    ·rintro j v' σ G5 hj ⟨u,rfl,Go,sk,Z,T0,T1,T2⟩;refine bK ?_;dsimp only;obtain⟨w0,o0⟩:=T0.ob;obtain⟨w1,o1⟩:=T1.ob;obtain⟨w2,o2⟩:=T2.ob;have lv:=KQ (P:=fun a=>∃o,G5 a=some o/\∀xs,o≠.tup xs) (tE Go) (no o0) (no o1) (no o2);have j3:j<3:=(aF.mp hj).1
     rcases (show j=0\/j=1\/j=2 by omega) with rfl|rfl|rfl
     ·cases hj;refine{_,rfl,k0,tn,_,rfl,o0,qK _ _ _ _ (by decide +kernel),_,rfl,_,rfl,_,_,rfl,rfl,?_};refine tj ?_;exact B5 T0 hM lv Y (by omega) (by omega) (by omega) (by omega) hd fun b G' U T'=>{_,rfl,bP sx U Go,bS DN U sk,U _ _ Z px.symm,T'.imp fun _=>trivial,(T1.but U tp.symm Y).imp (by omega),(T2.but U wE.symm Y).imp (by omega)}
     ·cases hj;refine{_,rfl,k1,ui,_,rfl,o1,qK _ _ _ _ (by decide +kernel),_,rfl,_,rfl,_,_,rfl,rfl,?_};refine tj ?_;exact B5 T1 hM lv DS (by omega) (by omega) (by omega) (by omega) (Nat.mod_one n) fun b G' U T'=>{_,rfl,bP mW U Go,bS sD U sk,U _ _ Z pk.symm,(T0.but U tp DS).imp (by omega),T'.imp fun _=>trivial,(T2.but U ri.symm DS).imp (by omega)}
     ·cases hj;refine{_,rfl,k2,tq,_,rfl,o2,qK _ _ _ _ (by decide +kernel),_,rfl,_,rfl,_,_,rfl,rfl,?_};refine tj ?_;exact B5 T2 oe lv Fa (by omega) (by omega) (by omega) (by omega) hd fun b G' U T'=>{_,rfl,bP pi U Go,bS rv U sk,U _ _ Z ry.symm,(T0.but U wE Fa).imp (by omega),(T1.but U ri Fa).imp (by omega),T'.imp fun _=>trivial}
    ·rintro σ G5 ⟨u,rfl,Go,sk,Z,T0,T1,T2⟩;have T0:=T0.imp (ran':=True) fun _=>by show 0<3;decide
     have T1:=T1.imp (ran':=True) fun _=>by show 1<3;decide
     have T2:=T2.imp (ran':=True) fun _=>by show 2<3;decide
     obtain⟨pj,ph,K0,y0⟩:=T0.in_ (F:=G5) vw_le fun _ h=>h;obtain⟨pA,pc,K1,y1⟩:=T1.in_ (F:=Wp k0 G5) (DQ Y) fun _ h=>gQ h tp.symm;obtain⟨pb,pm,K2,y2⟩:=T2.in_ (F:=Wp k0 G5) (DQ Y) fun _ h=>gQ h wE.symm;have R0:=T0.rn.same (DQ Y);have Rm:Rn CM Ms es (Wp k0 G5) m ol:=Rc.same fun a o e=>gQ (sk _ _ (uR e).2) (aw (uR e).2 DN);dsimp only;refine iz {_,rfl,kl,_,0,.ref k0,rfl,rfl,SqL.of Z,rfl,_,rfl,kl,_,1,.ref k1,rfl,rfl,SqL.of Z,rfl,_,rfl,kl,_,2,.ref k2,rfl,rfl,SqL.of Z,rfl,_,rfl,_,rfl,_,rfl,_,rfl,_,rfl,?_};refine tj ?_;refine{Ms,es,x,k0,tt,tz,pj,k1,we,va,pA,k2,wP,vf,pb,m,ol,1+ev,1,1+ev,mt,ph,pc,pm,sv,n,_,rfl,K0,R0,by omega,by omega,K1,K2,Rm,oi,(sH.same (o5 _ _)).same sk,hx,nh,by omega,by omega,y0,y1,y2,hM,pa,fun Gz bz=>{true,rfl,?_}};refine gu ?_;exact{_,_,_,_,_,rfl,bP sx bz Go,wh.trans (mV (bS DN bz sk))}
   ·rw[IG.mpr c];refine gu ?_;exact{_,_,_,_,_,rfl,Ge,DB}
  ·intro N hN;refine iz {_,rfl,_,_,rfl,rfl,_,rfl,?_}
   by_cases c:0<n
   ·rw[decide_eq_true (show (0:Int)<(n:Int) by omega)];refine iA ?_;obtain⟨v,q,g1,g2,e3,g4,g5⟩:=Fr c;obtain⟨rc,kk,wl,od,mm,oT,vs,qa,rfl,y1,y2,_⟩:=id (RcIn.same (w9 Ci) g2);obtain⟨ts,rfl,W⟩:=id sZ;refine cZ {10,6,rfl,rfl,{by decide,by decide,by decide},_,rfl,_,rfl,_,_,rfl,rfl,rl,g,(n:Int)-1,.ref rc,rfl,rfl,SqL.of (w9 Ci _ _ At),g1,rc,_,0,.ref kk,rfl,rfl,SqT.of y1,rfl,kk,_,0,.int q.h.t,rfl,rfl,SqT.of y2,rfl,_,_,rfl,rfl,_,rfl,p,4,rfl,vr,by decide,by decide,fun d Gb d0 d4 Ge bb=>{_,_,rfl,rfl,_,_,rfl,by show 1<=aB;omega,fun t1 sS=>?_}};obtain⟨T,hT⟩:∃T:Int,T=(if q.h.t+1+d<(10:Int)^(6:Int).toNat then q.h.t+1+d else (10:Int)^(6:Int).toNat):={_,rfl};rw[<- hT];have wT:Wo T:=by
     have g6:=g4.wt;have e6:(10:Int)^(6:Int).toNat=1000000:=by decide
     rw[e6]at hT;unfold Wo at g6 |-;rw[hT]
     split<;>omega
    have DF:ts≠p:=fun z=>by
     obtain⟨a,b,e⟩:=vr;rw[z,e]at W
     cases W
    have v1:=aH sS (.tup [V.int T]);have ow:=kN sS (.tup [V.int T]);have qt:=v1 _ _ (bb _ _ W DF);refine{_,rfl,1,rfl,ts,_,rfl,SqT.of qt,(fun z=>absurd z.1 (by show ¬HT.sIx 6 0 (some 1)=0;decide)),fun t2 oD=>?_};have v2:=aH oD (.tup (pG [.int x0.t,.int x0.r,.int x0.to,.str x0.sg,.int x0.a,.int x0.b] (some 1) none));refine{t1,t2,[V.int T],_,rfl,rfl,SqT.of (v2 _ _ ow),SqT.of ah,(fun z=>by cases z),(by show 1+5<=aB;omega),(fun z=>by cases z),fun _ t3 tm=>bK (hN _ _ {.ref t3,{x0 with t:=T},rfl,{t3,rfl,by rw[ah];rfl},⟨DO.to0,DO.to1,wT,DO.wa,DO.wb⟩,((Ge.same v1).same v2).same (aH tm _),(Ci.trans bb.wp).trans (mV (v1.trans (v2.trans (aH tm _))))})}
   ·rw[decide_eq_false (show ¬(0:Int)<(n:Int) by omega)];refine gu ?_;exact hN _ _ ⟨mn,x0,rfl,sZ,DO,vr,Ci⟩
 ·rintro σ G ⟨u7,u8,u9,CU,Gk,rfl,ti,sG⟩;exact fin _
end
def jK(CN CG W Z Y CL:aa):Flt->aa
 |.nought=>CN
 |.great=>CG
 |.full=>W
 |.dry=>Z
 |.span=>Y
 |.late=>CL
end My
namespace My
theorem qV{P:Flt->Prop}(a:P .nought)(b:P .great)(c:P .full)(d:P .dry)(e:P .span)(f:P .late):∀x,P x
 |.nought=>a
 |.great=>b
 |.full=>c
 |.dry=>d
 |.span=>e
 |.late=>f
end My
namespace My
open PySem L2
theorem mX{Z:Type}{n:Nat}{us:List Z}(h:us.length=n+1):∃a l,us=a::l/\l.length=n:=by
 cases us with
 |nil=>cases h
 |cons a l=>exact{a,l,rfl,Nat.succ.inj h}
theorem zE{Z:Type}{us:List Z}(h:us.length=1):∃a,us=[a]:=by
 obtain⟨a,l,rfl,h⟩:=mX h
 cases l with
 |nil=>exact⟨a,rfl⟩
 |cons b l=>cases h
theorem zF{Z:Type}{us:List Z}(h:us.length=2):∃a b,us=[a,b]:=by
 obtain⟨x,l,rfl,h'⟩:=mX h;obtain⟨a1,rfl⟩:=zE h';exact⟨x,a1,rfl⟩
theorem zG{Y:Type}{us:List Y}(h:us.length=3):∃a b c,us=[a,b,c]:=by
 obtain⟨x,l,rfl,h'⟩:=mX h;obtain⟨a1,Z,rfl⟩:=zF h';exact⟨x,a1,Z,rfl⟩
theorem zH{Y:Type}{us:List Y}(h:us.length=4):∃a b c d,us=[a,b,c,d]:=by
 obtain⟨x,l,rfl,h'⟩:=mX h;obtain⟨a1,Z,c1,rfl⟩:=zG h';exact⟨x,a1,Z,c1,rfl⟩
theorem zI{Y:Type}{us:List Y}(h:us.length=5):∃a b c d e,us=[a,b,c,d,e]:=by
 obtain⟨x,l,rfl,h'⟩:=mX h;obtain⟨a1,Z,c1,d1,rfl⟩:=zH h';exact⟨x,a1,Z,c1,d1,rfl⟩
theorem KU{Y:Type}{us:List Y}(h:us.length=6):∃a b c d e f,us=[a,b,c,d,e,f]:=by
 obtain⟨x,l,rfl,h'⟩:=mX h;obtain⟨a1,Z,c1,d1,e1,rfl⟩:=zI h';exact⟨x,a1,Z,c1,d1,e1,rfl⟩
theorem KW{Y:Type}{us:List Y}(h:us.length=7):∃a b c d e f g,us=[a,b,c,d,e,f,g]:=by
 obtain⟨x,l,rfl,h'⟩:=mX h;obtain⟨a1,Z,c1,d1,e1,f1,rfl⟩:=KU h';exact⟨x,a1,Z,c1,d1,e1,f1,rfl⟩
theorem DX{Y:Type}{us:List Y}(h:us.length=8):∃a b c d e f g h,us=[a,b,c,d,e,f,g,h]:=by
 obtain⟨x,l,rfl,h'⟩:=mX h;obtain⟨a1,Z,c1,d1,e1,f1,g1,rfl⟩:=KW h';exact⟨x,a1,Z,c1,d1,e1,f1,g1,rfl⟩
def Dn(K:ae)(x:Str)(st:c9)(f:aa):Prop:=bZ K bA x=some (some (.ref f))/\∃fd,Fun K x x st f fd
def Mn(K:ae)(C:aa)(x q:Str)(st:c9)(f:aa):Prop:=(aS K (.ref C) x=some (some (.ref f))/\oH K (.ref f)=true)/\∃fd,Fun K x q st f fd
structure Cn(K:ae)(C:aa):Prop where
 c:Cls K C
 m:uW K C=true
 k:gL K (.ref C)=true
theorem dn_i{K:ae}{x:Str}{st:c9}{f:aa}{W:af}{od U:Option aa}{sl:Array (Option af)}{kV Y V Z ct:af}(a:bZ K bA x=some (some (.ref f)))(l:K.lookup f=some {W,od,.func (fj x x (kS st) (jh st) (aN st) .none kV Y V U Z ct),sl})(c:jC K Z x=true)(k:gL K (.ref f)=true):Dn K x st f:={a,_,FV l c k}
theorem mn_i{K:ae}{x q:Str}{st:c9}{f C:aa}{W:af}{od U:Option aa}{sl:Array (Option af)}{kV Y V Z ct:af}(a:aS K (.ref C) x=some (some (.ref f)))(i:oH K (.ref f)=true)(l:K.lookup f=some {W,od,.func (fj x q (kS st) (jh st) (aN st) .none kV Y V U Z ct),sl})(c:jC K Z q=true)(k:gL K (.ref f)=true):Mn K C x q st f:={⟨a,i⟩,_,FV l c k}
theorem dfx{K:ae}{h:cB}{mg:Str->Option af}{x:Str}{st:c9}{f:aa}(ps:List Str)(X:K.In h)(G:h.Ns bA mg)(a:Dn K x st f)(hb:∀(kV Y W:af) (V:Option aa) (Z ct:af) (us:List af),us.length=ps.length->Bf (fj x x (kS st) (jh st) (aN st) .none kV Y W V Z ct) {us,[]}=pure (ps.zip us):=by intro _ _ _ _ _ _ us hl;first|(obtain⟨a,rfl⟩:=zE hl;rfl)|(obtain⟨a,b,rfl⟩:=zF hl;rfl)|(obtain⟨a,b,c,rfl⟩:=zG hl;rfl)|(obtain⟨a,b,c,d,rfl⟩:=zH hl;rfl)|(obtain⟨a,b,c,d,e,rfl⟩:=zI hl;rfl)|(obtain⟨a,b,c,d,e,f,g,h,rfl⟩:=DX hl;rfl)):∃fd,Df K mg x st ps f fd:=by
 obtain⟨a,fd,F⟩:=a;exact{fd,F,F.binds hb,dN X G a}
theorem mfx{K:ae}{x q:Str}{st:c9}{f C:aa}(ps:List Str)(a:Mn K C x q st f)(hb:∀(kV Y W:af) (V:Option aa) (Z ct:af) (us:List af),us.length=ps.length->Bf (fj x q (kS st) (jh st) (aN st) .none kV Y W V Z ct) {us,[]}=pure (ps.zip us):=by intro _ _ _ _ _ _ us hl;first|(obtain⟨a,rfl⟩:=zE hl;rfl)|(obtain⟨a,b,rfl⟩:=zF hl;rfl)|(obtain⟨a,b,c,rfl⟩:=zG hl;rfl)|(obtain⟨a,b,c,d,rfl⟩:=zH hl;rfl)|(obtain⟨a,b,c,d,e,rfl⟩:=zI hl;rfl)|(obtain⟨a,b,c,d,e,f,g,h,rfl⟩:=DX hl;rfl)):∃fd,Fun K x q st f fd/\Binds K fd ps []/\yG K C x f:=by
 obtain⟨⟨a,i⟩,fd,F⟩:=a;exact{fd,F,F.binds hb,a,i,F.kp}
theorem law_b{K:ae}{x q:Str}{st:c9}{f:aa}{fd:bU}{y:Str}(F:Fun K x q st f fd)(hb:∀(kV Y V:af) (W:Option aa) (Z ct v:af),Bf (fj x q (kS st) (jh st) (aN st) .none kV Y V W Z ct) {[v],[]}=pure [(y,v)])(s:ak)(v:af):uz s fd {[v],[]} [(y,v)]:=by
 obtain⟨O,od,kV,Y,V,W,Z,ct,U,rfl,_⟩:=F.ex;exact .of_eq (hb kV Y V W Z ct v)
theorem all_mk{l:vc}{w:bD}{K:ae}{h:cB}{mg:Str->Option af}{fa f1 f2 f3 f4 f5 f6 f7 f8 f9 fk dV hD im eo hy hH ip ek fe dv hS gr hG ei jp hE ey gq hF fx ee gt eh hK jq ea et em ft CM eF CS ez gl CD hn eu hx ed hP CB dj CC hR ge hQ gM CK il fz ix hB CN CG O M J CL CF kG kz:aa}{pq pj pM pm pp pA:aa}(X:K.In h)(G:h.Ns bA mg)(hX:mg "law"=some (.ref fa))
  (a1:Dn K "worth_of" lL f1) (a2:Dn K "number_of_leaf" gI f2) (a3:Dn K "number_of_two" gS f3) (a4:Dn K "number_of_division" eC f4) (a5:Dn K "done" y8 f5) (a6:Dn K "doing_of" oS f6) (a7:Dn K "deeds_by_sign" ie f7) (a8:Dn K "writes_of" mJ f8) (a9:Dn K "do_deeds" iI f9) (a10:Dn K "do_deed" nJ fk) (a11:Dn K "do_push" nU dV) (a12:Dn K "do_pull" nV hD) (a13:Dn K "do_draw" nX im) (a14:Dn K "do_send" nY eo) (a15:Dn K "copied" nZ hy) (a16:Dn K "first_state" j7 hH) (a17:Dn K "place_in" oQ ip) (a18:Dn K "put_in" qj ek) (a19:Dn K "pending_at_first" gi fe) (a20:Dn K "course_at_first" fv dv) (a21:Dn K "run_on" lN hS) (a22:Dn K "plain" vG gr) (a23:Dn K "_law_mixed" mK hG) (a24:Dn K "_law_purse" mO ei) (a25:Dn K "_law_draw" eJ jp) (a26:Dn K "_law_worth" fY hE) (a27:Dn K "_law_formula" gY ey) (a28:Dn K "_law_deeds" jv gq) (a29:Dn K "_law_send" lO hF) (a30:Dn K "_law_deed" lP fx) (a31:Dn K "_law_name" oV ee) (a32:Dn K "_law_names" kA gt) (a33:Dn K "_law_machines" hW eh) (a34:Dn K "_law_sign" lQ hK) (a35:Dn K "_law_signs" kC jq) (a36:Dn K "fork" wG ea) (a37:Dn K "is_book" qP et) (a38:Dn K "_law_good" jY em) (a39:Dn K "law" GY ft) (aCM:bZ K bA "Model"=some (some (.ref CM))) (a40:Mn K CM "__init__" "Model.__init__" oU eF) (pCM:Cn K CM) (nCMmachines:aS K (.ref CM) "machines"=some none) (aCS:bZ K bA "State"=some (some (.ref CS))) (a41:Mn K CS "__init__" "State.__init__" jH ez) (a42:Mn K CS "copy" "State.copy" iR gl) (pCS:Cn K CS) (nCSboxes:aS K (.ref CS) "boxes"=some none) (nCSqueues:aS K (.ref CS) "queues"=some none) (nCSdrawn:aS K (.ref CS) "drawn"=some none) (nCSsent:aS K (.ref CS) "sent"=some none) (aCD:bZ K bA "Doing"=some (some (.ref CD))) (a43:Mn K CD "__init__" "Doing.__init__" oR hn) (a44:Mn K CD "now" "Doing.now" ju eu) (a45:Mn K CD "reckon" "Doing.reckon" fu hx) (a46:Mn K CD "queue_of" "Doing.queue_of" eX ed) (a47:Mn K CD "fill" "Doing.fill" gT hP) (pCD:Cn K CD) (nCDmachine:aS K (.ref CD) "machine"=some none) (nCDhappening:aS K (.ref CD) "happening"=some none) (nCDstate:aS K (.ref CD) "state"=some none) (nCDwritten:aS K (.ref CD) "written"=some none) (nCDoutgoing:aS K (.ref CD) "outgoing"=some none) (nCDends:aS K (.ref CD) "ends"=some none) (nCDreckoned:aS K (.ref CD) "reckoned"=some none) (nCDqueued:aS K (.ref CD) "queued"=some none) (aCB:bZ K bA "Book"=some (some (.ref CB))) (a48:Mn K CB "__init__" "Book.__init__" qm dj) (pCB:Cn K CB) (nCBrecords:aS K (.ref CB) "records"=some none) (nCBending:aS K (.ref CB) "ending"=some none) (nCBstates:aS K (.ref CB) "states"=some none) (aCC:bZ K bA "Course"=some (some (.ref CC))) (a49:Mn K CC "__init__" "Course.__init__" m9 hR) (a50:Mn K CC "copy" "Course.copy" gX ge) (a51:Mn K CC "ending_due" "Course.ending_due" fK hQ) (a52:Mn K CC "do_one" "Course.do_one" ig gM) (pCC:Cn K CC) (nCCmodel:aS K (.ref CC) "model"=some none) (nCCstates:aS K (.ref CC) "states"=some none) (nCCpending:aS K (.ref CC) "pending"=some none) (nCCreached:aS K (.ref CC) "reached"=some none) (nCCstopped:aS K (.ref CC) "stopped"=some none) (aCK:bZ K bA "Keeper"=some (some (.ref CK))) (a53:Mn K CK "__init__" "Keeper.__init__" ng il) (a54:Mn K CK "run" "Keeper.run" iS fz) (a55:Mn K CK "go_on" "Keeper.go_on" iJ ix) (a56:Mn K CK "course_from" "Keeper.course_from" eY hB) (pCK:Cn K CK) (nCKmodel:aS K (.ref CK) "model"=some none) (nCKsigns:aS K (.ref CK) "signs"=some none) (nCKevery:aS K (.ref CK) "every"=some none) (nCKkept:aS K (.ref CK) "kept"=some none) (aCN:bZ K bA "Nought"=some (some (.ref CN))) (xCN:cR K CN oN "ValueError.__new__"=true) (aCG:bZ K bA "Great"=some (some (.ref CG))) (xCG:cR K CG oN "ValueError.__new__"=true) (aCU:bZ K bA "Full"=some (some (.ref O))) (xCU:cR K O oN "ValueError.__new__"=true) (aCY:bZ K bA "Dry"=some (some (.ref M))) (xCY:cR K M oN "ValueError.__new__"=true) (aCP:bZ K bA "Span"=some (some (.ref J))) (xCP:cR K J oN "ValueError.__new__"=true) (aCL:bZ K bA "Late"=some (some (.ref CL))) (xCL:cR K CL oN "ValueError.__new__"=true) (aCF:bZ K bA "Fault"=some (some (.ref CF))) (xCF:cR K CF oN "ValueError.__new__"=true) (aCNm:bZ K bA "NoMark"=some (some (.ref kG))) (xCNm:cR K kG oN "ValueError.__new__"=true) (aCTl:bZ K bA "TooLate"=some (some (.ref kz))) (xCTl:cR K kz oN "ValueError.__new__"=true) (enn:dD K (.ref CN) (.ref CN)=some true) (egn:dD K (.ref CG) (.ref CN)=some false) (egg:dD K (.ref CG) (.ref CG)=some true) (xfCN:dD K (.ref CN) (.ref CF)=some true) (XN100:xy K CN) (a100:Mn K CN "word" "Nought.word" m8 pq) (xfCG:dD K (.ref CG) (.ref CF)=some true) (XN101:xy K CG) (a101:Mn K CG "word" "Great.word" oP pj) (xfCU:dD K (.ref O) (.ref CF)=some true) (XN102:xy K O) (a102:Mn K O "word" "Full.word" qg pM) (xfCY:dD K (.ref M) (.ref CF)=some true) (XN103:xy K M) (a103:Mn K M "word" "Dry.word" rN pm) (xfCP:dD K (.ref J) (.ref CF)=some true) (XN104:xy K J) (a104:Mn K J "word" "Span.word" qh pp) (xfCL:dD K (.ref CL) (.ref CF)=some true) (XN105:xy K CL) (a105:Mn K CL "word" "Late.word" qi pA) (zlen:bZ K bA "len"=some none) (zabs:bZ K bA "abs"=some none) (zisinstance:bZ K bA "isinstance"=some none) (zlist:bZ K bA "list"=some none) (ztuple:bZ K bA "tuple"=some none) (zstr:bZ K bA "str"=some none) (zint:bZ K bA "int"=some none) (zbool:bZ K bA "bool"=some none) (zrange:bZ K bA "range"=some none) (zmax:bZ K bA "max"=some none) (zdict:bZ K bA "dict"=some none) (zsorted:bZ K bA "sorted"=some none) (zenumerate:bZ K bA "enumerate"=some none) (zmin:bZ K bA "min"=some none) :
  ∃fd:bU,(∀(s:ak) (v:af),uz s fd {[v],[]} [("_law_script",v)])/\∀base:cB,K.In base->base.Ns bA mg->bC l.prog w K mg base CX0 43 fa fd ["_law_script"] (DV K):=by
 obtain⟨_,D1⟩:=dfx ["formula","state","now","got"] X G a1;obtain⟨_,D2⟩:=dfx ["formula","state","now","got"] X G a2;obtain⟨_,D3⟩:=dfx ["kind","first","second"] X G a3;obtain⟨_,D4⟩:=dfx ["kind","first","second"] X G a4;obtain⟨_,D5⟩:=dfx ["model","state","happening"] X G a5;obtain⟨_,D6⟩:=dfx ["model","state","happening"] X G a6;obtain⟨_,D7⟩:=dfx ["machine","sign"] X G a7;obtain⟨_,D8⟩:=dfx ["doing"] X G a8;obtain⟨_,D9⟩:=dfx ["doing","deeds"] X G a9;obtain⟨_,na⟩:=dfx ["doing","deed"] X G a10;obtain⟨_,pc⟩:=dfx ["doing","name","formula"] X G a11;obtain⟨_,nc⟩:=dfx ["doing","name","box","otherwise"] X G a12;obtain⟨_,pe⟩:=dfx ["doing","box","formula"] X G a13;obtain⟨_,oL⟩:=dfx ["doing","deed"] X G a14;obtain⟨_,ln⟩:=dfx ["thing"] X G a15;obtain⟨_,nT⟩:=dfx ["model","at"] X G a16;obtain⟨_,nh⟩:=dfx ["falling","thing"] X G a17;obtain⟨_,g⟩:=dfx ["falling","thing"] X G a18;obtain⟨_,pb⟩:=dfx ["signs"] X G a19;obtain⟨_,oe⟩:=dfx ["model","signs"] X G a20;obtain⟨_,pa⟩:=dfx ["course","most"] X G a21;obtain⟨_,lx⟩:=dfx ["model","signs","most"] X G a22;obtain⟨_,gw⟩:=dfx ["_law_cell","_law_k"] X G a23;obtain⟨_,ka⟩:=dfx ["_law_script"] X G a24;obtain⟨_,mx⟩:=dfx ["_law_purse_here","_law_out_of"] X G a25;obtain⟨_,mt⟩:=dfx ["_law_purse_here"] X G a26;obtain⟨_,ih⟩:=dfx ["_law_purse_here","_law_low","_law_boxes","_law_queues"] X G a27;obtain⟨_,lc⟩:=dfx ["_law_purse_here","_law_low","_law_left","_law_there","_law_many"] X G a28;obtain⟨_,ec⟩:=dfx ["_law_purse_here","_law_there","_law_many"] X G a29;obtain⟨_,hg⟩:=dfx ["_law_purse_here","_law_low","_law_left","_law_there","_law_many"] X G a30;obtain⟨_,hf⟩:=dfx ["_law_purse_here","_law_long"] X G a31;obtain⟨_,lr⟩:=dfx ["_law_purse_here","_law_many","_law_first"] X G a32;obtain⟨_,kI⟩:=dfx ["_law_purse_here"] X G a33;obtain⟨_,lj⟩:=dfx ["_law_purse_here","_law_many"] X G a34;obtain⟨_,ls⟩:=dfx ["_law_purse_here","_law_many"] X G a35;obtain⟨_,ky⟩:=dfx ["keeper","number","sign","most"] X G a36;obtain⟨_,lw⟩:=dfx ["model","signs","records","ending"] X G a37;obtain⟨_,la⟩:=dfx ["_law_keeper","_law_other","_law_longer","_law_model","_law_signs_here","_law_sign_here","_law_number","_law_most"] X G a38;obtain⟨_,lA⟩:=dfx ["_law_script"] X G a39;obtain⟨_,ke,ki,lf⟩:=mfx ["self","machines"] a40;have lp:Mk K CM _:=⟨pCM.m,lf.at_,lf.fn,pCM.k⟩;obtain⟨_,H,z,kB⟩:=mfx ["self","boxes","queues","drawn","sent"] a41;obtain⟨_,oD,gd,eH⟩:=mfx ["self"] a42;have D:Mk K CS _:=⟨pCS.m,kB.at_,kB.fn,pCS.k⟩;obtain⟨_,mz,my,kn⟩:=mfx ["self","machine","state","happening"] a43;obtain⟨_,hA,dG,hj⟩:=mfx ["self"] a44;obtain⟨_,ha,er,ej⟩:=mfx ["self","formula"] a45;obtain⟨_,eb,hY,hz⟩:=mfx ["self","name"] a46;obtain⟨_,fo,iv,jl⟩:=mfx ["self","box","worth"] a47;have nf:Mk K CD _:=⟨pCD.m,kn.at_,kn.fn,pCD.k⟩;obtain⟨_,ml,mb,kt⟩:=mfx ["self","records","ending","states"] a48;have lz:Mk K CB _:=⟨pCB.m,kt.at_,kt.fn,pCB.k⟩;obtain⟨_,oi,no,lv⟩:=mfx ["self","model","states","pending"] a49;obtain⟨_,nz,kc,kv⟩:=mfx ["self"] a50;obtain⟨_,dz,el,hL⟩:=mfx ["self","left"] a51;obtain⟨_,io,hC,ew⟩:=mfx ["self"] a52;have oc:Mk K CC _:=⟨pCC.m,lv.at_,lv.fn,pCC.k⟩;obtain⟨_,hO,ep,lk⟩:=mfx ["self","model","signs","every"] a53;obtain⟨_,lM,ef,hN⟩:=mfx ["self","most"] a54;obtain⟨_,kw,js,eL⟩:=mfx ["self","number","most"] a55;obtain⟨_,mf,dL,he⟩:=mfx ["self","number"] a56;have dn:Mk K CK _:=⟨pCK.m,lk.at_,lk.fn,pCK.k⟩;have e:=hX.symm.trans lA.m
 cases e;have B:Bl mg:={cT X G zlen,cT X G zabs,cT X G zisinstance,cT X G zlist,cT X G ztuple,cT X G zstr,cT X G zint,cT X G zbool,cT X G zrange,cT X G zmax,cT X G zdict};have Z:MdT K mg CM CS:={pCM.c,pCS.c,nCMmachines,nCSboxes,nCSqueues,nCSdrawn,nCSsent,dN X G aCM,dN X G aCS};have W:DT K mg CD:={pCD.c,nCDmachine,nCDhappening,nCDstate,nCDwritten,nCDoutgoing,nCDends,nCDreckoned,nCDqueued,dN X G aCD};have U:Hw K mg (jK CN CG O M J CL):={{dN X G aCN,dN X G aCG,xCN,xCG,enn,egn,egg},dN X G aCU,dN X G aCY,dN X G aCP,dN X G aCL,xCU,xCY,xCP,xCL};have Y:Mt K CD "now" "Doing.now" ju ["self"] _ _:=⟨hA,dG,hj⟩;have MtR:Mt K CD "reckon" "Doing.reckon" fu ["self","formula"] _ _:=⟨ha,er,ej⟩;have ow:Mt K CD "queue_of" "Doing.queue_of" eX ["self","name"] _ _:=⟨eb,hY,hz⟩;have ph:Mt K CD "fill" "Doing.fill" gT ["self","box","worth"] _ _:=⟨fo,iv,jl⟩;have ov:Mt K CS "copy" "State.copy" iR ["self"] _ _:=⟨oD,gd,eH⟩;obtain⟨_,pk,ly,hT⟩:=mfx ["self"] a100;obtain⟨_,px,mn,ii⟩:=mfx ["self"] a101;obtain⟨_,pr,mc,dt⟩:=mfx ["self"] a102;obtain⟨_,pw,lR,hI⟩:=mfx ["self"] a103;obtain⟨_,pi,md,fy⟩:=mfx ["self"] a104;obtain⟨_,py,lF,iF⟩:=mfx ["self"] a105;have TK:KeT K mg CK:={pCK.c,nCKmodel,nCKsigns,nCKevery,nCKkept,dN X G aCK};have nl:Mt K CC "copy" "Course.copy" gX ["self"] _ _:=⟨nz,kc,kv⟩;have mp:Mt K CK "run" "Keeper.run" iS ["self","most"] _ _:=⟨lM,ef,hN⟩;have kh:Mt K CK "go_on" "Keeper.go_on" iJ ["self","number","most"] _ _:=⟨kw,js,eL⟩;have mq:Mt K CK "course_from" "Keeper.course_from" eY ["self","number"] _ _:=⟨mf,dL,he⟩;have mm:mg "min"=none:=cT X G zmin;have TB:BkT K mg CB:={pCB.c,nCBrecords,nCBending,nCBstates,dN X G aCB};have V:CoT K mg CC:={pCC.c,nCCmodel,nCCstates,nCCpending,nCCreached,nCCstopped,dN X G aCC};have I:Mt K CC "ending_due" "Course.ending_due" fK ["self","left"] _ _:=⟨dz,el,hL⟩;have oT:Mt K CC "do_one" "Course.do_one" ig ["self"] _ _:=⟨io,hC,ew⟩;have mr:mg "sorted"=none:=cT X G zsorted;have ME:mg "enumerate"=none:=cT X G zenumerate;have mv:mg "Fault"=some (.ref CF):=dN X G aCF;have MW:∀e,yG K ((jK CN CG O M J CL) e) "word" ((pE pq pj pM pm pp pA) e):=fun e=>by cases e<;>assumption
 have mu:∀e,xy K ((jK CN CG O M J CL) e):=fun e=>by cases e<;>assumption
 have mW:∀e,dD K (.ref ((jK CN CG O M J CL) e)) (.ref CF)=some true:=fun e=>by cases e<;>assumption
 have BW:∀e,Binds K (pE _ _ _ _ _ _ e) ["self"] []:=qV ly mn mc lR md lF;exact{_,law_b lA.F fun _ _ _ _ _ _ _=>rfl,fun base _ _=>OG lA ka (Ii ka gw B) mx mt kI (ok_ms kI lr (Ik lr hf mx B) lc (fun bs qs=>LW lc hg ec ih mx mt B 4) mx mt B) ls (ok_ss ls lj mx mt B) lj lp (Lr (n:=29) ke ln B Z) ki dn (ok_ki hO lp (Lr (n:=29) ke ln B Z) ki oe (zm oe nT (qQ nT D H z B Z) pb (wM pb ME) oc no (uQ oi V) V Z B mr) TK Z B) ep mp (Mf lM oe (zm oe nT (qQ nT D H z B Z) pb (wM pb ME) oc no (uQ oi V) V Z B mr) nl (zw nz ov (kU oD D H z B Z) oc (uQ oi V) no V Z B) I (wY I V) pa (w5 pa I (wY I V) oT (wZ (cf:=(jK CN CG O M J CL)) (fW:=(pE pq pj pM pm pp pA)) (fdW:=(pE _ _ _ _ _ _)) oT g (uj g nh B) D5 (fun bq=>(sX (n:=5) D5 D6 nf my (Az mz ov (kU oD D H z B Z) W Z) D9 (oh D9 na ph MtR (gp (cf:=(jK CN CG O M J CL)) MtR Y D1 D3 D4 D2 W U Z B) nc pc (sU pc MtR (gp (cf:=(jK CN CG O M J CL)) MtR Y D1 D3 D4 D2 W U Z B) ow W U Z B) pe (qz pe MtR (gp (cf:=(jK CN CG O M J CL)) MtR Y D1 D3 D4 D2 W U Z B) ph W U Z B) oL (sV oL MtR (gp (cf:=(jK CN CG O M J CL)) MtR Y D1 D3 D4 D2 W U Z B) Y W U Z B) ow W Z 5) D7 D8 W Z B)) MW BW (qV (lU pk) (oy px) (qF pr) (tf pw) (qG pi) (qH py)) mu mv mW V Z) V B) lz mb (HP ml TB) TK V TB B mm) la (ok_gd la kh (ok_kg kw mq (L9 mf nl (zw nz ov (kU oD D H z B Z) oc (uQ oi V) no V Z B) TK V (dN X G aCNm) xCNm) pa (w5 pa I (wY I V) oT (wZ (cf:=(jK CN CG O M J CL)) (fW:=(pE pq pj pM pm pp pA)) (fdW:=(pE _ _ _ _ _ _)) oT g (uj g nh B) D5 (fun bq=>(sX (n:=5) D5 D6 nf my (Az mz ov (kU oD D H z B Z) W Z) D9 (oh D9 na ph MtR (gp (cf:=(jK CN CG O M J CL)) MtR Y D1 D3 D4 D2 W U Z B) nc pc (sU pc MtR (gp (cf:=(jK CN CG O M J CL)) MtR Y D1 D3 D4 D2 W U Z B) ow W U Z B) pe (qz pe MtR (gp (cf:=(jK CN CG O M J CL)) MtR Y D1 D3 D4 D2 W U Z B) ph W U Z B) oL (sV oL MtR (gp (cf:=(jK CN CG O M J CL)) MtR Y D1 D3 D4 D2 W U Z B) Y W U Z B) ow W Z 5) D7 D8 W Z B)) MW BW (qV (lU pk) (oy px) (qF pr) (tf pw) (qG pi) (qH py)) mu mv mW V Z) V B) TK) ky (ok_fk ky mq (L9 mf nl (zw nz ov (kU oD D H z B Z) oc (uQ oi V) no V Z B) TK V (dN X G aCNm) xCNm) pb (wM pb ME) g (uj g nh B) pa (w5 pa I (wY I V) oT (wZ (cf:=(jK CN CG O M J CL)) (fW:=(pE pq pj pM pm pp pA)) (fdW:=(pE _ _ _ _ _ _)) oT g (uj g nh B) D5 (fun bq=>(sX (n:=5) D5 D6 nf my (Az mz ov (kU oD D H z B Z) W Z) D9 (oh D9 na ph MtR (gp (cf:=(jK CN CG O M J CL)) MtR Y D1 D3 D4 D2 W U Z B) nc pc (sU pc MtR (gp (cf:=(jK CN CG O M J CL)) MtR Y D1 D3 D4 D2 W U Z B) ow W U Z B) pe (qz pe MtR (gp (cf:=(jK CN CG O M J CL)) MtR Y D1 D3 D4 D2 W U Z B) ph W U Z B) oL (sV oL MtR (gp (cf:=(jK CN CG O M J CL)) MtR Y D1 D3 D4 D2 W U Z B) Y W U Z B) ow W Z 5) D7 D8 W Z B)) MW BW (qV (lU pk) (oy px) (qF pr) (tf pw) (qG pi) (qH py)) mu mv mW V Z) V B) TK V (dN X G aCTl) xCTl) mp (Mf lM oe (zm oe nT (qQ nT D H z B Z) pb (wM pb ME) oc no (uQ oi V) V Z B mr) nl (zw nz ov (kU oD D H z B Z) oc (uQ oi V) no V Z B) I (wY I V) pa (w5 pa I (wY I V) oT (wZ (cf:=(jK CN CG O M J CL)) (fW:=(pE pq pj pM pm pp pA)) (fdW:=(pE _ _ _ _ _ _)) oT g (uj g nh B) D5 (fun bq=>(sX (n:=5) D5 D6 nf my (Az mz ov (kU oD D H z B Z) W Z) D9 (oh D9 na ph MtR (gp (cf:=(jK CN CG O M J CL)) MtR Y D1 D3 D4 D2 W U Z B) nc pc (sU pc MtR (gp (cf:=(jK CN CG O M J CL)) MtR Y D1 D3 D4 D2 W U Z B) ow W U Z B) pe (qz pe MtR (gp (cf:=(jK CN CG O M J CL)) MtR Y D1 D3 D4 D2 W U Z B) ph W U Z B) oL (sV oL MtR (gp (cf:=(jK CN CG O M J CL)) MtR Y D1 D3 D4 D2 W U Z B) Y W U Z B) ow W Z 5) D7 D8 W Z B)) MW BW (qV (lU pk) (oy px) (qF pr) (tf pw) (qG pi) (qH py)) mu mv mW V Z) V B) lz mb (HP ml TB) TK V TB B mm) lw (ok_is lw lx (Oa lx oe (zm oe nT (qQ nT D H z B Z) pb (wM pb ME) oc no (uQ oi V) V Z B mr) pa (w5 pa I (wY I V) oT (wZ (cf:=(jK CN CG O M J CL)) (fW:=(pE pq pj pM pm pp pA)) (fdW:=(pE _ _ _ _ _ _)) oT g (uj g nh B) D5 (fun bq=>(sX (n:=5) D5 D6 nf my (Az mz ov (kU oD D H z B Z) W Z) D9 (oh D9 na ph MtR (gp (cf:=(jK CN CG O M J CL)) MtR Y D1 D3 D4 D2 W U Z B) nc pc (sU pc MtR (gp (cf:=(jK CN CG O M J CL)) MtR Y D1 D3 D4 D2 W U Z B) ow W U Z B) pe (qz pe MtR (gp (cf:=(jK CN CG O M J CL)) MtR Y D1 D3 D4 D2 W U Z B) ph W U Z B) oL (sV oL MtR (gp (cf:=(jK CN CG O M J CL)) MtR Y D1 D3 D4 D2 W U Z B) Y W U Z B) ow W Z 5) D7 D8 W Z B)) MW BW (qV (lU pk) (oy px) (qF pr) (tf pw) (qG pi) (qH py)) mu mv mW V Z) V B) lz mb (HP ml TB) TB V) TB B) TK TB B) Z TK TB B mm}
theorem walk{l:vc}{q:aK}{Z:List Str}{M:(Str->Option af)->cB->Prop}{W:bD->cB->Prop}{d:DefRec}{K:Params->ae}(J:l.most=some 63)(Y:d.params.defaults=[])
  (U:∀(w:bD) (h:cB),W w h->(K w.params).In h)
  (F:∀(w:bD) (mg:Str->Option af) (V:aa) (h:cB),(K w.params).In h->h.Ns bA mg->mg d.name=some (.ref V) ->
   ∃fd:bU,(∀(s:ak) (u:af),uz s fd {[u],[]} [("_law_script",u)])/\∀base:cB,(K w.params).In base->base.Ns bA mg->bC l.prog w (K w.params) mg base CX0 43 V fd ["_law_script"] (DV (K w.params))) :
  IW q Z M W l.row.toRowW d [] (fun f vs=>Es f vs):=
 L2.walk_ofB (n:=63) (k:=43) (x:="_law_script") (CX:=fun _=>CX0) (sp:=fun w=>DV (K w.params)) J (by decide) Y {rfl,by decide,by decide} U F (fun _ _ a ns hl hb O=>{a,ns,rfl,O,hl,hb,fun _=>rfl}) fun _ _ _ _ _ z=>z
end My
namespace PySem.W.Fast
def tw3936937217613708608:=0
def tw7052446625497078469:=0
def tw15656371398172133790:=0
def tw3647550595559927141:=0
def tw11301795599225960754:=0
def tw10548841588111538041:=0
def tw10299837419385171500:=0
def tw1949257694306850880:=0
def tw13399104218554442746:=0
def tw14442683032337468417:=0
def tw8840238222465899357:=0
def tw11483432441796122107:=0
def tw9299872224518370966:=0
def tw12794581508832655342:=0
def tw8082119679296209308:=0
def tw9862457092802204644:=0
def tw14551873668647278231:=0
def tw12462054930487156513:=0
def tw11755336110840852970:=0
def tw295244342795520722:=0
def tw12766965865498541124:=0
def tw13264297497919411504:=0
def tw2388975026454813231:=0
def tw12138741385122151501:=0
def tw17636579285180104208:=0
def tw17227173421905461522:=0
def tw2682346276101526649:=0
def tw17686522990449525857:=0
def tw1396011483380833231:=0
def tw6965340920694561116:=0
def tw8845539524493042121:=0
def tw5962325572977850972:=0
def tw4544649600061784129:=0
def tw9413971950577159365:=0
def tw16549286939251376986:=0
def tw12343873909219972965:=0
def tw256699350251814862:=0
def tw15180221781156645048:=0
def tw3924759587490706695:=0
def tw8481675810627106834:=0
def tw13227653798718342413:=0
def tw347244894004274861:=0
def tw7020388341978805412:=0
def tw9877412786794097381:=0
def tw5732950608118288564:=0
def tw10441680168897975472:=0
def tw11486837549455889617:=0
def tw9642631766387352444:=0
def tw15417042500358569587:=0
def tw14822411885080961597:=0
def tw11680839605204772844:=0
def tw7195944140524277655:=0
def tw8180779564520753810:=0
def tw10945435126496169158:=0
def tw8592687269192776298:=0
def tw9211328149406447792:=0
def tw3407664605497267959:=0
def tw9902616834768511007:=0
def tw2924050939229220422:=0
def tw14932100554442519705:=0
def tw16632912285796384862:=0
def tw848654602312681759:=0
def tw13535793128465477962:=0
def tw12968304775780976238:=0
def tw8727093248039600630:=0
def tw14232533610668234385:=0
def tw14558351037303814315:=0
def tw16949591735369314578:=0
def tw3917460945094513879:=0
def tw17251629400417405414:=0
def tw5009439584450162081:=0
def tw11868185330644115006:=0
def tw9121442703595616397:=0
def tw9399346831343444963:=0
def tw12508284146120832659:=0
def tw4561329531561193121:=0
def tw2269076893839504023:=0
def tw12131857271541991880:=0
def tw2143075407256099157:=0
def tw17930051822158119677:=0
def tw11721259494346848196:=0
def tw9339589268567368031:=0
def tw12427346435053259648:=0
def tw277856733679320388:=0
def tw8405681072729251937:=0
def tw3863039799542737391:=0
def tw10337935265823904032:=0
def tw1639549550306085748:=0
def tw2393513827412741646:=0
def tw13201721527453028291:=0
def tw5010022813684674771:=0
def tw10287523290563868326:=0
def tw8977275956935469889:=0
def tw17216903356603293264:=0
def tw9665750303824780595:=0
def tw1039377281203944236:=0
def tw9704440014373879783:=0
def tw3474229962250208167:=0
def tw4688453424249610570:=0
def tw5382833811758698646:=0
def tw17082752057048480326:=0
def tw4880205943287825984:=0
def tw5536315277840731048:=0
def tw11683211110566027798:=0
def tw15814797980600833977:=0
def tw10041835743450678877:=0
def tw17129650596796027460:=0
def tw16083824149593646345:=0
def tw13904956963393863222:=0
def tw6252605704925160968:=0
def tw17093471974599911918:=0
def tw12275262369142752520:=0
def tw15481884531385513402:=0
def tw13133488947755352016:=0
def tw14782711229812777681:=0
def tw13109108179864830640:=0
def tw8421125770573414914:=0
def tw3175591931769088964:=0
def tw8236004832459652134:=0
def tw10600870722018332365:=0
def tw1417114380412321449:=0
def tw8664127351676965648:=0
def tw10719856786418632204:=0
def tw10677882525558675771:=0
def tw9343047418659394624:=0
def tw13669687576936832209:=0
def tw11321531295685394437:=0
def tw11664323296334728281:=0
def tw8586714285539415068:=0
def tw9664386304792255610:=0
def tw14982293960115178675:=0
def tw1777866505229858403:=0
def tw7368371084118244787:=0
def tw5541836822106152859:=0
def tw14163468465282984696:=0
def tw2139256573214950302:=0
def tw17045726215374903845:=0
def tw16439401520559780793:=0
def tw14092272195299629413:=0
def tw8061721176271668921:=0
def tw8479201532834502861:=0
def tw8818831109952187209:=0
def tw14157303943578224885:=0
def tw15118388880722556740:=0
def tw862226041361996727:=0
def tw13674106033901397548:=0
def tw338874741141467104:=0
def tw8039533108623530119:=0
def tw273897331011759135:=0
def tw8540350012021260517:=0
def tw13500389612244923962:=0
def tw14393481082018011875:=0
def tw6267527269521867890:=0
def tw11975632636033786922:=0
def tw3361633963395554025:=0
def tw17215297555210714960:=0
def tw15851057343498229060:=0
def tw12332356042349376347:=0
def tw5465690752439625475:=0
def tw12714231607115137300:=0
def tw2372641203687829739:=0
def tw17832485941923825849:=0
def tw510655114195379678:=0
def tw11416966014563586320:=0
def tw17295566724800656718:=0
def tw17937482621862729317:=0
def tw12223595941817644540:=0
def tw10431329402469857106:=0
def tw9437488212192169559:=0
def tw2597188022992646639:=0
def tw2879974306899552666:=0
def tw6244728174683945255:=0
def tw8016648850505352542:=0
def tw7242621842689356039:=0
def tw6731642255578188832:=0
def tw14733550351702529625:=0
def tw12063374017577616951:=0
def tw11623908993053548414:=0
def tw10649979992709362868:=0
def tw6422453429551727873:=0
def tw10979770566046900383:=0
def tw5275928010513691334:=0
def tw16696781550773800607:=0
def tw2340512694325519844:=0
def tw7308350512113952537:=0
def tw4476418434894887771:=0
def tw13099481642452103468:=0
def tw673800319928266888:=0
def tw15208831278946620373:=0
def tw14884337353555334792:=0
def tw3490809462308144989:=0
def tw7629142595725322307:=0
def tw4778733541006179864:=0
def tw8635662829508048537:=0
def tw1945691758914355871:=0
def tw11719891762442194702:=0
def tw14796784926242219952:=0
def tw12210281365151217694:=0
def tw3791016354687623374:=0
def tw818433494355673511:=0
def tw7203049250625122179:=0
def tw3630668751001422954:=0
def tw15840965179324069031:=0
def tw3171353743345935276:=0
def tw14310156606327176817:=0
def tw12565545675150337441:=0
def tw5356263560435848814:=0
def tw9301626694597423617:=0
def tw15759026195896315784:=0
def tw4477958617018195034:=0
def tw7999440697494048973:=0
def tw4252145250480460124:=0
def tw569087005490050780:=0
def tw1070876842354320661:=0
def tw12962763167484661883:=0
def tw4134156142885795689:=0
def tw18090426788554374735:=0
def tw17346092865178975:=0
def tw5750239886322886093:=0
def tw3191170467711600728:=0
def tw3059188814986202245:=0
def tw7824922148574019912:=0
def tw10453674061506131760:=0
def tw5142867396253377077:=0
def tw8712947080950079737:=0
def tw7755812112259035208:=0
def tw1112998547321162246:=0
def tw9086221869066412020:=0
def tw16259946056879733930:=0
def tw15185096189212874839:=0
def tw1155917729859992434:=0
def tw16284184769664645237:=0
def tw16645158711340361438:=0
def tw4871249859820070880:=0
def tw17380586089088473496:=0
def tw7096519113824113201:=0
def tw2813601852378355822:=0
def tw16744120848023613462:=0
def tw7471018348544905927:=0
def tw7149377656608802353:=0
def tw7893695892081826544:=0
def tw13111990230828986709:=0
def tw11912254517155469405:=0
def tw12263404120249602125:=0
def tw6466809316931531054:=0
def tw7638336245133622151:=0
def tw3614198323416415379:=0
def tw10578133547737571974:=0
def tw6186438637786723861:=0
def tw13399333626946269224:=0
def tw8266562861862481188:=0
def tw14521885685135777605:=0
def tw18416240325068183592:=0
def tw11553677933552902433:=0
def tw14476051114866704888:=0
def tw7396600368812589522:=0
def tw16266648728246755968:=0
def tw6306213835538526510:=0
def tw3329112138205490686:=0
def tw9902863634261963705:=0
def tw6963778120371409340:=0
def tw1832264751756569793:=0
def tw3893725009155991084:=0
def tw10812452115490048203:=0
def tw11942006723924245157:=0
def tw3459001474417092740:=0
def tw10727979567529780507:=0
def tw13356834267091646266:=0
def tw4557062528397051726:=0
def tw5700634492317934616:=0
def tw9447368728612317331:=0
def tw6149208849646956474:=0
def tw2967905159838316349:=0
def tw297909083876317043:=0
def tw12139731368227689015:=0
def tw14636942704934604963:=0
def tw3284353382504843194:=0
def tw1247155459347379627:=0
def tw11201351599087333883:=0
def tw10631346684851688651:=0
def tw14148970212691227241:=0
def tw17316408039758873863:=0
def tw13061660493768709956:=0
def tw1464346844690953087:=0
def tw813189696796286414:=0
def tw2870659282705320997:=0
def tw14461680212401335950:=0
def tw17665623240002600478:=0
def tw8966873699270185162:=0
def tw15939087705828187477:=0
def tw6040739003430593336:=0
def tw4222395254625947926:=0
def tw10044955404189208066:=0
def tw17821107216592898615:=0
def tw11468530934679331292:=0
def tw8038690724836568531:=0
def tw17717301845905407777:=0
def tw3832582384982181533:=0
def tw7540116843950255369:=0
def tw4832531007078418418:=0
def tw6268100043407167686:=0
def tw1936332943388437971:=0
def tw2926633329606230005:=0
def tw5650305796400341544:=0
def tw16814189346456217841:=0
def tw6329945093133391097:=0
def tw17814153244454475098:=0
def tw12220232498406637522:=0
def tw18301545867458801189:=0
def tw12440638451316728601:=0
def tw15567472329142624853:=0
def tw815219146101681188:=0
def tw5660688699351692379:=0
def tw11818624919883954883:=0
def tw15728806849416390574:=0
def tw1129419607313444836:=0
def tw3139667783279363069:=0
def tw10751597976707273815:=0
def tw14799539428006591723:=0
def tw4807994793020113147:=0
def tw5222128850145880467:=0
def tw453727183543589592:=0
def tw1221754419956739882:=0
def tw4406788391409472941:=0
def tw14003815920400425969:=0
def tw16702796130997410871:=0
def tw15907462837938833690:=0
def tw2286417489104398211:=0
def tw3075504534569115400:=0
def tw4481416983771638430:=0
def tw11975377584941178487:=0
def tw6483825727692938660:=0
def tw16598678631595335768:=0
def tw15060720792091525726:=0
def tw14234657937850861060:=0
def tw8777367932910581281:=0
def tw12417037691186843310:=0
def tw5214891855933647197:=0
def tw17396183786268207767:=0
def tw15804684650259908867:=0
def tw1430298432688399075:=0
def tw8709463316235699314:=0
def tw14477146744943660946:=0
def tw2253506681737100144:=0
def tw2396268068118402819:=0
def tw9882226162408553658:=0
def tw8087479900853521298:=0
def tw17999245063824948971:=0
def tw12241129574835457348:=0
def tw14463870898114665797:=0
def tw8741726983722996817:=0
def tw522994125237295448:=0
def tw16531206265328847399:=0
def tw5787658773072758247:=0
def tw8017306898478668621:=0
def tw7262154781901948242:=0
def tw13527003042091871632:=0
def tw5064176828415616951:=0
def tw17930425646802582023:=0
def tw253256087068633346:=0
def tw8939828027526951330:=0
def tw6409309212851490855:=0
def tw16817815138384977284:=0
def tw1051229083844529485:=0
def tw15580274553338834736:=0
def tw15780502221712098722:=0
def tw3645341417200172645:=0
def tw6957900847463608454:=0
def tw11989688921147160907:=0
def tw4831105528135073531:=0
def tw8098247588360479989:=0
def tw11577178738921304411:=0
def tw1850854966318810773:=0
def tw10877060135134814340:=0
def tw15371395769610035578:=0
def tw7249253309258051355:=0
def tw14485021342837126904:=0
def tw476389786341619644:=0
def tw5545217008015608538:=0
def tw15722258884552691421:=0
def tw10980616916595211580:=0
def tw12229634503492501814:=0
def tw6635199353919127681:=0
def tw15393005692922016302:=0
def tw5473835914685402676:=0
def tw6578539020423654235:=0
def tw16328648607495790018:=0
def tw8438715370257393372:=0
def tw13725793571870861989:=0
def tw13332766976981537128:=0
def tw6075218658473549241:=0
def tw12035820021397469174:=0
def tw5419948710207631959:=0
def tw9413759394984026462:=0
def tw2087402625916297911:=0
def tw12694001996504977812:=0
def tw9070331190074343666:=0
def tw11747962660328260040:=0
def tw15955435777554879460:=0
def tw14026152208221786251:=0
def tw2624862722441035619:=0
def tw14329528788220979018:=0
def tw7428512075496268801:=0
def tw5208612722928361135:=0
def tw13485635979352455429:=0
def tw1163033989614115973:=0
def tw46529081583363239:=0
def tw5134724734046972826:=0
def tw4899613369210013380:=0
def tw16565012329769141855:=0
def tw5171165577149267436:=0
def tw1264337883630521403:=0
def tw5282463958794380782:=0
def tw16311206023828123166:=0
def tw7969107147781754791:=0
end PySem.W.Fast
open PySem PySem.W PyProof.Rows
set_option maxRecDepth 100000 in
set_option maxHeartbeats 0 in
theorem PySem.Challenge.cw_momentloom_k98_whole_forks_and_marks_holds : PySem.Challenge.rw_momentloom_k98_whole_forks_and_marks.Holds := by
 w_on;o_law;k_head;(case hw=>w_witness2)
 k_fill
 refine My.walk (l:=OH) rfl rfl (fun w h Y=>PySem.W.kIn_of Y) ?F
 case F=>
  intro w mg fa h KX G hmg;refine' My.all_mk KX G hmg ?a1 ?a2 ?a3 ?a4 ?a5 ?a6 ?a7 ?a8 ?a9 ?a10 ?a11 ?a12 ?a13 ?a14 ?a15 ?a16 ?a17 ?a18 ?a19 ?a20 ?a21 ?a22 ?a23 ?a24 ?a25 ?a26 ?a27 ?a28 ?a29 ?a30 ?a31 ?a32 ?a33 ?a34 ?a35 ?a36 ?a37 ?a38 ?a39 ?aCM ?a40 ?pCM ?nCMmachines ?aCS ?a41 ?a42 ?pCS ?nCSboxes ?nCSqueues ?nCSdrawn ?nCSsent ?aCD ?a43 ?a44 ?a45 ?a46 ?a47 ?pCD ?nCDmachine ?nCDhappening ?nCDstate ?nCDwritten ?nCDoutgoing ?nCDends ?nCDreckoned ?nCDqueued ?aCB ?a48 ?pCB ?nCBrecords ?nCBending ?nCBstates ?aCC ?a49 ?a50 ?a51 ?a52 ?pCC ?nCCmodel ?nCCstates ?nCCpending ?nCCreached ?nCCstopped ?aCK ?a53 ?a54 ?a55 ?a56 ?pCK ?nCKmodel ?nCKsigns ?nCKevery ?nCKkept ?aCN ?xCN ?aCG ?xCG ?aCU ?xCU ?aCY ?xCY ?aCP ?xCP ?aCL ?xCL ?aCF ?xCF ?aCNm ?xCNm ?aCTl ?xCTl ?enn ?egn ?egg ?xfCN ?XN100 ?a100 ?xfCG ?XN101 ?a101 ?xfCU ?XN102 ?a102 ?xfCY ?XN103 ?a103 ?xfCP ?XN104 ?a104 ?xfCL ?XN105 ?a105 ?zlen ?zabs ?zisinstance ?zlist ?ztuple ?zstr ?zint ?zbool ?zrange ?zmax ?zdict ?zsorted ?zenumerate ?zmin
  case a1|a2|a3|a4|a5|a6|a7|a8|a9|a10|a11|a12|a13|a14|a15|a16|a17|a18|a19|a20|a21|a22|a23|a24|a25|a26|a27|a28|a29|a30|a31|a32|a33|a34|a35|a36|a37|a38|a39=>
   refine' My.dn_i ?a ?l ?c ?k
   case a=>k_is
   case l=>k_is
   case c=>k_is
   case k=>k_is
  case aCM|aCS|aCD|aCB|aCC|aCK|aCN|aCG|aCU|aCY|aCP|aCL|aCF|aCNm|aCTl=>k_is
  case a40|a41|a42|a43|a44|a45|a46|a47|a48|a49|a50|a51|a52|a53|a54|a55|a56=>
   refine' My.mn_i ?a ?i ?l ?c ?k
   case a=>k_is
   case i=>k_is
   case l=>k_is
   case c=>k_is
   case k=>k_is
  case pCM|pCS|pCD|pCB|pCC|pCK=>exact{{by k_is,by k_is,by k_is,by k_is},by k_is,by k_is}
  case nCMmachines|nCSboxes|nCSqueues|nCSdrawn|nCSsent|nCDmachine|nCDhappening|nCDstate|nCDwritten|nCDoutgoing|nCDends|nCDreckoned|nCDqueued|nCBrecords|nCBending|nCBstates|nCCmodel|nCCstates|nCCpending|nCCreached|nCCstopped|nCKmodel|nCKsigns|nCKevery|nCKkept|zlen|zabs|zisinstance|zlist|ztuple|zstr|zint|zbool|zrange|zmax|zdict|zsorted|zenumerate|zmin=>k_is
  case xCN|xCG|xCU|xCY|xCP|xCL|xCF|xCNm|xCTl=>k_exc
  case enn|egn|egg=>kts_exm
  case xfCN|xfCG|xfCU|xfCY|xfCP|xfCL=>kts_exm
  case XN100|XN101|XN102|XN103|XN104|XN105=>exact{by k_is,by k_is,by k_is,by k_is,by k_is,by k_is,by k_is}
  case a100|a101|a102|a103|a104|a105=>
   refine' My.mn_i ?a ?i ?l ?c ?k
   case a=>k_is
   case i=>k_is
   case l=>k_is
   case c=>k_is
   case k=>k_is

