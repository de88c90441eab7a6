import PyProof.Rows.All
import Wide.All
import OpenK.AllK
import Wide.FinOn
import Lean
import PyProof.EqAt
import PyProof.EqKinds
import PyProof.TupleCall
import KE.KDictOf
import PyProof.AttrMissSeq
import PyProof.DictCopy
import PyProof.NeKinds
import PyProof.DictWalks
import PyProof.MinMaxWalk
import PyProof.MeetsDictList
import PyProof.DictFindH
import PyProof.DictTruth
import KE.KRevSl
import PyProof.DictItems
import KE.KDictSum
import PyProof.Rows.SortStr
import PyProof.Rows.SortWalk
import PyProof.ExcArgsOwn
import PyProof.NsDelKeeps
import PyProof.EnumMake
import PyProof.EnumFor
import PyProof.EnumStmt
import PyProof.Rows.EnumRows
import PyProof.Rows.SortRev
import KE.KSortTup
import KE.KTab
import PyProof.Rows.SortShell
import PySem.Challenge.RW_momentloom_k44_forks
local macro_rules
| `({$x:term,*})=>`(⟨$x,*⟩)
open PySem renaming Addr->aa,Value->ae,wpAny_bind->ai,Shared->ao,sizeLine->aB,Paired->aK,Program->aM,wpAny_pure->aO,wpAny->aX,model->bA,mainGlobals->bD,World->bO,FuncData->bX,Around->cj,boot_len->cu,Heap->cC,starEach->cK,Expr->cU,Stmt->cX,compareOp->c5,wpAny_loadPart'->dy,wpAny_holding->dU,wpAny_mono->eK,cLine->eN,bootBuiltins->eS,sysModules->fi,eval->gf,mem_of_lookup->gy,Builtin->ic,binaryOp->iy,wpAny_Call_Name_kw->iD,wpAny_passesOwn->iN,wpAny_truthy_bool->iZ,wpAny_newObj_type->i9,backTo->jj,keywordEach->jm,behindInMarks->jP,NameKind->kO,richCompare_meets_room->kP,assignEach->lG,wpAny_forIn_list->lL,wpAny_call_entry->lN,attributeBase->me,ExceptHandler->mh,Scope->mi,sizeLine_eq->mw,wpAny_field->mB,sliceBounds->mC,wpAny_execs_nil->nA,codeAny->oh,codeAny_mono->oj,getMethod->oU,backToKw->oY,tupleKind_room_in1->o5,foldedSetIterable->p7,richCompare->p8,valueAt->p9,wpAny_dictEntries->qc,wpAny_newList->qC,holding->rZ,wpAny_call->sI,call_meets->sJ,letOwnedTupleGo->sW,codeAny_builtin->sX,rawInt->uh,unbindBehindTheSuite->uA,swapsWith->uR,BindsTo->uV,getItem->uY,stored->wI,standAt->xu,call->xw,callerA->xH,wpAny_pyIter_slot->xM,tupleKind->yH,assign->yK,IsPart->yT,subscripted->zT,Within->z5,leaving->A4,wpAny_richCompare_same_room->A7,wpAny_loadPart->Bg,callWith->Bi,bindArgs->Bn,wpAny_newFunctionEnv_cells->Bq,atKey->Bz,wpAny_setField->BB,wpAny_rule->BD,evalArgs_none->Cy,wpAny_standAt->Ep,call->EJ,bindL->Fj,bindC->Fk,cellsFrom->Fl,wpAny_Call_method0_late->Fo,noteFrame->Fq,isTrue->Fz,wpAny_pyNext_list_item->FE,Result->FN,wpAny_typeOf->FT,seqIndex_neg->FV,call_meetsIn->GH,wpAny_isTrue_Compare1->Ji,wpAny_pyNext_list_end->Jj,codeAny_call_function->Jk,Model->Ju,Operator->Jy,rule->Jz,seqIndex_of->JI,getAttr?->JT,KeyKind->Lm,builtinsNs->M0,wpAny_Name->M4,typeLookup->Nj,checkCount->NF,CmpOp->OT,wpAny_assign_Name->OU,wpAny_pyIter_list->OV,Keyword->OW,slot_list_getitem->OY
open PySem.W renaming Frag->af,findIn->aU,nsIn->bR,kitOne->bV,mg_of->cE,exmOne->cN,mg_none_of->cP,excIn->cT,kia_one->eD,emptyDict->fj,fnOf->fq,keepIn->gF,instObj->gP,looks_findIn->gS,InstAt->jC,codeIn->jE,methodCall_KW->jU,callWith_K->lI,katRev->lR,kitAny->l9,plainGet->og,isFn->oX,cellsFrom_some->oZ,hideAll->pP,lookIn->qi,plainGet_of->rK,methodObj->sY,hasDictIn->tf,takerIn->vn,makesIn->vp,OpenLaw->vx,mroIn->xx,clsIn->xO,hideAll_get->A1,callWith_K0->A3,of_hideAll->Bb,codeRec_of->Bp,plainOver->Cr,specialIn->Cs,kitx_list->Ct,kitx_dict->Cu,handedIn->Ey,takesIn->Fi,findObj->Fu,exm_one->Fw,typeIn->FO,notCls->Hc,WalkO->Jm,kas_rev->O5
open List renaming mem_cons_of_mem->ak,mem_cons->ar,length_map->au,length_append->ay,mem_cons_self->aC,mem_singleton->aD,size_toArray->aF,getElem?_eq_some_iff->aG,getElem?_eq_getElem->aH,length_cons->aS,not_mem_nil->aV,mem_append_right->bj,lookup_cons_self->bT,mem_append->bZ,map_cons->cg,map_append->cw,length_nil->cy,mem_of_getElem?->cB,mem_map->cD,lookup_cons->cG,replicate->cI,append_nil->cL,nodup_cons->cM,getElem?_map->cQ,getElem?_append_right->df,map_map->dA,pairwise_iff_getElem->dD,length_take->dH,getElem?_of_mem->dI,getD_eq_getElem?_getD->dY,dropLast_subset->eG,getElem?_append_left->eQ,zip_cons_cons->e8,take_length->fg,getElem?_set_self->fX,take_add_one->gs,pairwise_cons->gI,getElem?_eq_none->gL,mem_append_left->gZ,pairwise_append->g9,getLast?_concat->hJ,map_congr_left->ie,nodup_append->iJ,append_assoc->iK,getElem?_set_ne->iU,nodup_nil->iV,getElem_map->ja,length_reverse->jg,mem_map_of_mem->jh,find?_cons->jy,length->jD,take_zero->jV,pairwise_map->jW,length_replicate->kA,contains_iff_mem->kH,range->kL,length_drop->kM,any_cons->kR,lookup->kT,length_dropLast->kU,nil_append->lF,getElem?_replicate->pS,pairwise_singleton->pU,of_mem_zip->qj,length_zip->qK,length_filter_le->rA,take_append_drop->rC,mem_range->rM,drop_zero->rR,dropLast_concat->rT,filterMap_cons->sV,mem_filterMap->tZ,zip_nil_right->t9,take_sublist->uW,zip_nil_left->uX,map_nil->uZ,toArray->vg,reverse_perm->vh,foldl_append->vi,eraseIdxIfInBounds_toArray->vv,map_reverse->vR,getElem_mem->vS,perm_middle->vU,isEmpty_iff->vW,foldl_cons->xq,getElem?_zip_eq_some->zc,drop_eq_getElem_cons->zp,getLast?_eq_none_iff->zx,getElem?_take_of_lt->zS,take_of_length_le->A8,length_singleton->Bx,mem_of_mem_take->Dy,length_pos_iff->Fc,getElem?_drop->Fs,reverse_cons->F0,ext_getElem?->GX,any_eq_true->Jl,drop_length->Jo,cons_append->Jp,mem_filter->Js,length_set->JK,all_cons->Nq,map_take->N6
open Nat renaming le_refl->ax,ne_of_lt->aQ,lt_of_lt_of_le->bM,zero_le->cm,le_trans->dB,le_succ->gm,not_lt_zero->gz,lt_irrefl->hW,lt_succ_of_lt->iL,lt_of_le_of_lt->jF,le_of_lt->mj,sub_self->mJ,ne_of_gt->qg,lt_trans->qx,lt_of_succ_lt_succ->qA,succ_pos->qL,mul_le_mul_right->sR,lt_or_ge->vy,mul_comm->vD,lt_succ_self->wD,le_add_right->w5,le_of_eq->Bh,succ_mul->Ca,add_le_add_left->Fp,add_sub_cancel->GK,lt_or_gt_of_ne->Hj,lt_trichotomy->Jr,min_eq_left->MH
open PySem.Heap renaming get?_push_of_some->aJ,lt_size->aP,get?_push_size->cz,get?_update_other->fZ,get?_push_ne->gp,size_update->gH,get?_update_self->rj,size_push->rO,SameBut->uQ,get?_update_ne->EV,MadeExcOf->Lw
open Bool renaming false_ne_true->aY,and_eq_true->kN,eq_iff_iff->qh,and_eq_true_iff->rQ,false_eq_true->ue,noConfusion->vH,and_false->Ls,true_and->NA
open PySem.Paired renaming length->aZ,snoc->eR
open PySem.F renaming plainAttrs_list->cF,slot_list_append->dJ,type_list_append->dM,args_tuple_add_2->xB,entry_tuple_add->x9,args_tuple_gt_2->yg,slot_dict_items->yi,slot_tuple_add->yS,entry_tuple_gt->zf,slot_tuple_gt->zU,slot_list_pop->zW,type_list_pop->zX
open False renaming elim->cY
open PySem.Obj renaming mapSeq->dh,mapFields->ua,data_mapFields->ux,isFreed_of_fields->CI
open PySem.PassesOwn renaming never->dC
open Option.some renaming inj->dP
open PyProof.Rows renaming IntsAre->dQ,seqObj->dW,slot_tuple_getitem->jt,callWith_type1->j7,AllBare->p6,IsTup->rJ,envOfC->uu,listUpdate_at->vP,size_push'->wV,envOfC->xR,seqEpoch_at->zV,entry_list_sort->As,tuples'->A9,slot_list_sort->BN,Constant_none->Eo,subscriptTail->EB,sortedAll->Fx,floordiv_int->FH,subscriptTail_builtinR->FW,call_function_entry_kw->Hf,plain_sorted->Hg,entry_sorted->Hh,kind_sorted->J6,wpAny_call_entry_kw->LC,Subscript_->Nl,args_list_sort_rev->NG
open PySem.Builtin.Int renaming intBits->ff
open Array renaming length_toList->fY,perm_iff_toList_perm->iQ,getElem?_eq_some_iff->mH,getD->p0,getElem?_toList->qp,toList->M8
open Ne renaming symm->gi
open PySem.Builtin.Slice renaming slicePlaces->iA,sliceAdjust->kQ,sliceApplied->tu
open List.Perm renaming refl->iB
open PySem.Builtin.Tuple renaming tupleExact->iE,tupleCompareSizes->jo
open PySem.AutoSeq1 renaming sub_tuple_tuple->i5,list_insert_list_int_val_1->O3
open Int renaming emod_lt_of_pos->jJ,emod_nonneg->lY,toNat_natCast->vt,le_refl->xr,fdiv_eq_ediv_of_nonneg->yO
open Option renaming map_eq_some_iff->jO,isSome_map->nG,getD_none->Fn,bind_some->Fv,map_some->Hn
open PySem.Str renaming ofString->jY
open PySem.Builtin.List renaming listTooLong->lC,listFitsIndex->uc
open PySem.W.WData renaming weight->lP,weightAll->wQ
open Sum.inr renaming inj->mK
open PySem.Calls renaming callWith_builtin->pY,Name_function_global->xt,evalArgs_plain->Bv
open PySem.SeqAt.EqAt renaming int_int->q9,int_str->zP,str_int->zQ,same->Bu
open Function renaming comp->rL
open PySem.Builtin.Dict renaming dictSlotArgs->uy,updateFrom->vw,pairItems->vI,samePairs->vK
open Classical renaming byContradiction->vM
open List.cons renaming inj->xh
open PySem.SeqAt renaming EqAt->xy
open PyProof renaming noPylong_of_log2->xK
open And renaming imp->yt
open PySem.EntryCells renaming newEntry->y8
open PySem.Around renaming under->zR,under_plainId->A6
open PySem.Code renaming isFrame->A2,quiet_builtin->Ft
open PySem.Heap.DictOf renaming new->A5
open PySem.Value renaming isInt->Ba,isInt_shape->Fh,isStrOf->Ll
open PyProof.Rows.IsTup renaming new->FU
open PySem.Builtin.ObjectAttr renaming bindTo->Jn
open Nat.succ renaming inj->Jq
open Std.Legacy.Range renaming forIn_eq_forIn_range'->Ly,size->Lz
open PySem.Challenge renaming rw_momentloom_k44_forks->OS
open PySem.Heap.IsSliceOf renaming new->OX
open PySem.W.WShape renaming has->OZ
open PySem.Heap.UpToSlots renaming of_keeps->O0
open PyProof.Rows.SortSt renaming mk'->O4
-- CHANGE: your row's module here, as the last of these rows
set_option Elab.async false
set_option linter.all false
set_option maxRecDepth 100000
namespace L2
open PySem PySem.Spec PyProof.Rows
abbrev Key:=Sum Int Str
def xT:Key->ae->Bool
 |.inl k,v=>Ba k v
 |.inr x,v=>Ll x v
def keyH(w:bO):Key->Int
 |.inl k=>hashInt k
 |.inr x=>hashStr w x
theorem gB:∀{k:Key} {v:ae},xT k v=true->(∃i t,k=Sum.inl i/\v=Value.int i t)\/(∃x t,k=Sum.inr x/\v=Value.str x t)
 |.inl i,v,h=>by
  obtain⟨t,e⟩:=Fh (k:=i) (v:=v) h;exact .inl ⟨i,t,rfl,e⟩
 |.inr x,v,h=>by
  obtain⟨t,e⟩:=Value.isStrOf_shape (x:=x) (v:=v) h;exact .inr ⟨x,t,rfl,e⟩
theorem El(i:Int)(t:Tok):xT (.inl i) (.int i t)=true:=by simp[xT,Ba]
theorem Em(x:Str)(t:Tok):xT (.inr x) (.str x t)=true:=by simp[xT,Ll]
theorem MU(a b:Int):decide ((Sum.inl a:Key)=Sum.inl b)=(a==b):=by
 by_cases e:a=b
 ·subst e;simp
 ·have h:¬(Sum.inl a:Key)=Sum.inl b:=fun q=>e (Sum.inl.inj q);rw[decide_eq_false h];exact (beq_eq_false_iff_ne.mpr e).symm
theorem MX(a b:Str):decide ((Sum.inr a:Key)=Sum.inr b)=decide (a=b):=by
 by_cases e:a=b
 ·subst e;simp
 ·have h:¬(Sum.inr a:Key)=Sum.inr b:=fun q=>e (mK q);rw[decide_eq_false h,decide_eq_false e]
theorem MY(a:Int)(b:Str):decide ((Sum.inl a:Key)=Sum.inr b)=false:=decide_eq_false (fun q=>nomatch q)
theorem MZ(a:Str)(b:Int):decide ((Sum.inr a:Key)=Sum.inl b)=false:=decide_eq_false (fun q=>nomatch q)
def eZ(prog:aM)(w:bO):Lm prog w Key where
 is:=xT
 hash:=keyH w
 inj:=fun v a b ha hb=>by
  rcases gB ha with⟨i,t,rfl,rfl⟩|⟨x,t,rfl,rfl⟩
  ·rcases gB hb with⟨j,u,rfl,e⟩|⟨y,u,rfl,e⟩
   ·injection e with e1 _;rw[e1]
   ·exact nomatch e
  ·rcases gB hb with⟨j,u,rfl,e⟩|⟨y,u,rfl,e⟩
   ·exact nomatch e
   ·injection e with e1 _;rw[e1]
 byValue:=fun k v h=>by
  rcases gB h with⟨i,t,rfl,rfl⟩|⟨x,t,rfl,rfl⟩<;>rfl
 pyHash:=fun hv h=>by
  rcases gB hv with⟨i,t,rfl,rfl⟩|⟨x,t,rfl,rfl⟩
  ·exact wpAny_pyHash_int h
  ·exact wpAny_pyHash_str h
 eqBool:=fun hu hv h=>by
  rcases gB hu with⟨i,t,rfl,rfl⟩|⟨x,t,rfl,rfl⟩
  ·rcases gB hv with⟨j,u,rfl,rfl⟩|⟨y,u,rfl,rfl⟩
   ·rw[MU]at h;exact wpAny_eqBool_int h
   ·rw[MY]at h;exact zP i t y u _ _ _ _ h
  ·rcases gB hv with⟨j,u,rfl,rfl⟩|⟨y,u,rfl,rfl⟩
   ·rw[MZ]at h;exact zQ x t j u _ _ _ _ h
   ·rw[MX]at h;exact wpAny_eqBool_str h
 «strs»:=fun k x t v h=>by
  rcases gB h with⟨i,u,rfl,e⟩|⟨y,u,rfl,e⟩
  ·exact nomatch e
  ·injection e with e1 _;subst e1
   cases v<;>rfl
theorem zY(prog:aM)(w:bO)(i:Int)(t:Tok):(eZ prog w).is (.inl i) (.int i t)=true:=El i t
theorem zZ(prog:aM)(w:bO)(x:Str)(t:Tok):(eZ prog w).is (.inr x) (.str x t)=true:=Em x t
inductive V where
 |non|bl (b:Bool)|int (i:Int)|str (x:Str)|byt (b:Array UInt8)|flt (b:UInt64)|ref (a:aa)|ty (n:String)
 deriving DecidableEq
def RelV:V->ae->Prop
 |.non,u=>u=Value.none
 |.bl b,u=>u=Value.bool b
 |.int i,u=>∃t,u=Value.int i t
 |.str x,u=>∃t,u=Value.str x t
 |.byt b,u=>∃t,u=Value.bytes b t
 |.flt b,u=>∃t,u=Value.float b t
 |.ref a,u=>u=Value.ref a
 |.ty n,u=>u=Value.type n
abbrev c9:List V->List ae->Prop:=aK RelV
theorem c9.length{xs:List V}{us:List ae}(r:c9 xs us):xs.length=us.length:=aZ r
theorem c9.get:∀{xs:List V} {us:List ae} {i:Nat} {x:V},c9 xs us->xs[i]?=some x->∃u,us[i]?=some u/\RelV x u
 |_,_,_,_,.nil,e=>by simp at e
 |_,_,0,_,.cons r _,e=>by simp at e;subst e;exact{_,rfl,r}
 |_,_,i+1,x,.cons _ t,e=>by
  obtain⟨u,h1,h2⟩:=c9.get (i:=i) (x:=x) t (by simpa using e);exact{u,by simpa using h1,h2}
theorem c9.set{x:V}{u:ae}(r:RelV x u):∀{xs:List V} {us:List ae} (i:Nat),c9 xs us->c9 (xs.set i x) (us.set i u)
 |_,_,_,.nil=>.nil
 |_,_,0,.cons _ t=>.cons r t
 |_,_,i+1,.cons q t=>.cons q (c9.set r i t)
theorem c9.append:∀{xs ys:List V} {us Z:List ae},c9 xs us->c9 ys Z->c9 (xs++ys) (us++Z)
 |_,_,_,_,.nil,s=>s
 |_,_,_,_,.cons r t,s=>.cons r (c9.append t s)
theorem c9.take:∀{xs:List V} {us:List ae} (n:Nat),c9 xs us->c9 (xs.take n) (us.take n)
 |_,_,0,_=>.nil
 |_,_,_+1,.nil=>.nil
 |_,_,n+1,.cons r t=>.cons r (c9.take n t)
theorem c9.drop:∀{xs:List V} {us:List ae} (n:Nat),c9 xs us->c9 (xs.drop n) (us.drop n)
 |_,_,0,r=>r
 |_,_,_+1,.nil=>.nil
 |_,_,n+1,.cons _ t=>c9.drop n t
def rH:Option V->Option ae->Prop
 |some v,some u=>RelV v u
 |none,none=>True
 |_,_=>False
def KV{κ:Type}:List (κ×V)->List (κ×ae)->Prop:=aK fun (p:κ×V) (q:κ×ae)=>p.1=q.1/\RelV p.2 q.2
def kV:Key->V
 |.inl i=>.int i
 |.inr x=>.str x
inductive HO where
 /-- a list -/
 |lst(xs:List V)
 /-- a tuple (never changes) -/
 |tup(xs:List V)
 /-- a dict whose keys are ints and texts; one whose keys are tuples of ints and texts (the empty one is both) -/
 |dK(kvs:List (Key×V))|dT (kvs:List (List Key×V))
 /-- a set of ints: its members, its size -/
 |set(S:Int->Bool)(n:Nat)
 /-- an instance of the class at C, its dict at dx, its attributes -/
 |ins(C dx:aa)(fs:List (Str×V))
 /-- the dict of the instance at x -/
 |own(x:aa)
 /-- the dict of an exception -/
 |xd(fs:List (Str×V))
 /-- a bound method, f of x -/
 |met(f x:aa)
 /-- a range object lo, lo + 1, .. below hi -/
 |rng(lo hi:Int)
 /-- a thing that is known to the object (the script; a dict while a loop walks it): read, never written while it is so -/
 |frz(o:Obj)(u:HO)
 /-- a code object's table -/
 |tbl(ps:Array ae)
 /-- any other thing, by what is true of its one object (a def of one's own: SetO a S n := HO.ext fun h => ..) -/
 |ext(φ:cC->Prop)
abbrev Hp:=aa->Option HO
def upd(H:Hp)(a:aa)(o:HO):Hp:=fun b=>if b=a then some o else H b
theorem aj{H:Hp}{a:aa}{o:HO}:upd H a o a=some o:=by unfold upd;rw[if_pos rfl]
theorem aN{H:Hp}{a b:aa}{o:HO}(h:b≠a):upd H a o b=H b:=by unfold upd;rw[if_neg h]
theorem Cg{H:Hp}{a:aa}{o u:HO}:upd (upd H a o) a u=upd H a u:=by
 funext b;unfold upd;split<;>rfl
theorem pO{H:Hp}{a b:aa}{o u:HO}(h:H a=some o)(h':H b=some u)(d:o≠u):a≠b:=by
 intro e;subst e;rw[h]at h';exact d (dP h')
theorem aw{H:Hp}{a b:aa}{o:HO}(h:H a=some o)(h':H b=none):a≠b:=by
 intro e;subst e;rw[h]at h';cases h'
section
variable(P:aM)(w:bO)
def eP(H:Hp)(h:cC)(a:aa):HO->Prop
 |.lst xs=>xs.length<=aB/\∃(Z:List ae) (n:Nat),c9 xs Z/\h.get? a=some {cls:=.type "list",data:=.seq Z.toArray n}
 |.tup xs=>xs.length<=aB/\∃Z:List ae,c9 xs Z/\rJ h a Z.toArray
 |.dK kvs=>kvs.length<=aB/\(a==fi)=false/\∃vs,KV kvs vs/\h.DictOf (eZ P w) a vs
 |.dT kvs=>kvs.length<=aB/\(a==fi)=false/\∃xs:List (List Key×aa×ae),
   aK (fun (p:List Key×V) (q:List Key×aa×ae)=>p.1=q.1/\H q.2.1=some (.tup (p.1.map kV))/\RelV p.2 q.2.2) kvs xs /\
   ∃o es ep,h.get? a=some o/\o.ExactDict/\o.data=.dict es ep/\es.toList=xs.map (entryOfKey (yH (eZ P w)))/\(xs.map (·.1)).Nodup
 |.set S n=>h.SetOf (intKind P w) a S n
 |.ins C dx fs=>H dx=some (.own a)/\fs.length<=1000/\dx≠a/\h.get? a=some (gP C dx) /\
   ∃mA,h.Ns1 dx mA/\(∀f,rH (fs.lookup f) (mA f))/\z5 mA (fs.map (·.1))
 |.own _=>∃o,h.get? a=some o
 |.xd fs=>∃mA,h.Ns1 a mA/\∀f,rH (fs.lookup f) (mA f)
 |.rng lo hi=>∃t u v,h.get? a=some {cls:=.type "range",data:=.fields #[.int lo t,.int hi u,.int 1 v]}
 |.frz o u=>h.get? a=some o/\eP H h a u
 |.tbl ps=>h.get? a=some {cls:=.none,data:=.fields ps}
 |.met f x=>h.get? a=some (sY (.ref f) (.ref x))
 |.ext φ=>φ h/\(∃o,h.get? a=some o)/\∀h1 h2:cC,φ h1->(∀o,h1.get? a=some o->h2.get? a=some o)->φ h2
def HOk(H:Hp)(h:cC):Prop:=∀a o,H a=some o->eP P w H h a o
end
section
variable{P:aM}{w:bO}{H H':Hp}{h h':cC}{a:aa}{o:HO}
theorem eP.lt(x:eP P w H h a o):a<h.objs.size:=by
 cases o with
 |lst xs=>obtain⟨_,_,_,_,e⟩:=x;exact aP e
 |tup xs=>obtain⟨_,_,_,p⟩:=x;exact p.lt
 |dK kvs=>obtain⟨_,_,_,_,o,_,_,e,_⟩:=x;exact aP e
 |dT kvs=>obtain⟨_,_,_,_,o,_,_,e,_⟩:=x;exact aP e
 |set S n=>obtain⟨o,_,_,_,e,_⟩:=x;exact aP e
 |ins C dx fs=>obtain⟨_,_,_,e,_⟩:=x;exact aP e
 |own y=>obtain⟨_,e⟩:=x;exact aP e
 |xd fs=>obtain⟨_,⟨_,_,_,e,_⟩,_⟩:=x;exact aP e
 |rng lo hi=>obtain⟨_,_,_,e⟩:=x;exact aP e
 |frz ob u=>obtain⟨e,_⟩:=x;exact aP e
 |tbl ps=>exact aP (show h.get? a=some _ from x)
 |met f y=>exact aP (show h.get? a=some _ from x)
 |ext φ=>obtain⟨_,⟨_,e⟩,_⟩:=x;exact aP e
theorem Paired.mapP{V W:Type}{F G:V->W->Prop}:∀{Y:List V} {Z:List W},aK F Y Z->(∀a b,F a b->G a b)->aK G Y Z
 |_,_,.nil,_=>.nil
 |_,_,.cons r t,f=>.cons (f _ _ r) (Paired.mapP t f)
theorem Paired.imp'{V W:Type}{F G:V->W->Prop}(f:∀a b,F a b->G a b){Y:List V}{Z:List W}(r:aK F Y Z):aK G Y Z:=Paired.mapP r f
theorem eP.stay(x:eP P w H h a o)(k:∀b u,(b=a\/H b=some (.own a))->h.get? b=some u->h'.get? b=some u)
  (ho:∀b,H b=some (.own a)->H' b=some (.own a)) (ht:∀b xs,H b=some (.tup xs)->H' b=some (.tup xs)):eP P w H' h' a o:=by
 induction o with
 |lst xs=>obtain⟨z,Z,n,r,e⟩:=x;exact{z,Z,n,r,k _ _ (.inl rfl) e}
 |tup xs=>obtain⟨z,Z,r,ob,e,c⟩:=x;exact{z,Z,r,ob,k _ _ (.inl rfl) e,c}
 |dK kvs=>obtain⟨z,y,vs,r,ob,es,ep,e,c⟩:=x;exact{z,y,vs,r,ob,es,ep,k _ _ (.inl rfl) e,c}
 |dT kvs=>
  obtain⟨z,y,xs,r,ob,es,ep,e,c⟩:=x;exact{z,y,xs,Paired.mapP r fun p q z=>{z.1,ht _ _ z.2.1,z.2.2},ob,es,ep,k _ _ (.inl rfl) e,c}
 |set S n=>obtain⟨ob,es,ep,t,e,c⟩:=x;exact{ob,es,ep,t,k _ _ (.inl rfl) e,c}
 |ins C dx fs=>
  obtain⟨d,z,ne,e,mA,⟨od,es,ep,W,c⟩,r⟩:=x;exact{ho _ d,z,ne,k _ _ (.inl rfl) e,mA,{od,es,ep,k _ _ (.inr d) W,c},r}
 |own y=>obtain⟨ob,e⟩:=x;exact{ob,k _ _ (.inl rfl) e}
 |xd fs=>obtain⟨mA,⟨od,es,ep,e,c⟩,r⟩:=x;exact{mA,{od,es,ep,k _ _ (.inl rfl) e,c},r}
 |rng lo hi=>obtain⟨t,u,v,e⟩:=x;exact{t,u,v,k _ _ (.inl rfl) e}
 |frz ob u Y=>obtain⟨e,q⟩:=x;exact{k _ _ (.inl rfl) e,Y q}
 |tbl ps=>
  have e:h.get? a=some {cls:=.none,data:=.fields ps}:=x;show h'.get? a=some {cls:=.none,data:=.fields ps};exact k a _ (.inl rfl) e
 |met f y=>
  have e:h.get? a=some (sY (.ref f) (.ref y)):=x;show h'.get? a=some (sY (.ref f) (.ref y));exact k a _ (.inl rfl) e
 |ext φ=>obtain⟨p,⟨o,e⟩,st⟩:=x;exact{st _ _ p fun o q=>k _ _ (.inl rfl) q,{o,k _ _ (.inl rfl) e},st}
theorem HOk.lt(x:HOk P w H h)(e:H a=some o):a<h.objs.size:=(x a o e).lt
theorem HOk.fresh(x:HOk P w H h)(e:h.objs.size<=a):H a=none:=by
 cases q:H a with
 |none=>rfl
 |some u=>exact absurd (bM (x.lt q) e) (hW _)
theorem HOk.kept(x:HOk P w H h)(k:∀b u,h.get? b=some u->h'.get? b=some u):HOk P w H h':=fun a o e=>
 (x a o e).stay (fun b u _ q=>k b u q) (fun _ q=>q) fun _ _ q=>q
theorem HOk.laid(x:HOk P w H h)(k:∀b u,h.get? b=some u->h'.get? b=some u)(hp:h.objs.size<=a)(new:eP P w (upd H a o) h' a o):HOk P w (upd H a o) h':=fun b u e=>by
 have Z:=x.fresh hp
 by_cases hb:b=a
 ·subst hb;rw[aj]at e;cases e;exact new
 ·rw[aN hb]at e;exact (x b u e).stay (fun c v _ q=>k c v q) (fun c q=>by rw[aN (aw q Z)];exact q) fun c xs q=>by rw[aN (aw q Z)];exact q
end
def Rd(H:Hp)(a:aa)(u:HO):Prop:=H a=some u\/∃o,H a=some (.frz o u)
theorem Rd.ok{P:aM}{w:bO}{H:Hp}{h:cC}{a:aa}{u:HO}(r:Rd H a u)(x:HOk P w H h):eP P w H h a u:=by
 rcases r with r|⟨o,r⟩
 ·exact x a u r
 ·obtain⟨_,q⟩:=x a _ r;exact q
def Mut:Option HO->Prop
 |some (.lst _)=>True
 |some (.dK _)=>True
 |some (.dT _)=>True
 |some (.set _ _)=>True
 |some (.ins _ _ _)=>True
 |some (.ext _)=>True
 |_=>False
section
variable{P:aM}{w:bO}{H:Hp}{h h':cC}{x e:aa}{o':HO}
theorem HOk.write(ok:HOk P w H h)(V:Mut (H x))(J:e=x\/H e=some (.own x))(k:∀b u,b≠e->h.get? b=some u->h'.get? b=some u)(U:∃u,h'.get? e=some u)
  (new:eP P w (upd H x o') h' x o'):HOk P w (upd H x o') h':=fun b u q=>by
 have Y:∀c y,H c=some (.own y)->c≠x:=fun c y r z=>by subst z;rw[r]at V;exact V
 have W:∀c xs,H c=some (.tup xs)->c≠x:=fun c xs r z=>by subst z;rw[r]at V;exact V
 by_cases hb:b=x
 ·subst hb;rw[aj]at q;cases q;exact new
 ·rw[aN hb]at q
  by_cases Z:b=e
  ·have O:H b=some (.own x):=by
    rcases J with z|z
    ·exact absurd (Z.trans z) hb
    ·rw[Z];exact z
   rw[q]at O;cases O;obtain⟨v,hv⟩:=U;exact{v,by rw[Z];exact hv}
  ·refine (ok b u q).stay (fun c v hc r=>k c v ?_ r) (fun c r=>by rw[aN (Y c b r)];exact r) fun c xs r=>by rw[aN (W c xs r)];exact r
   rcases hc with rfl|hc
   ·exact Z
   ·rintro rfl
    rcases J with z|z
    ·exact Y c b hc z
    ·rw[hc]at z;cases z;exact hb rfl
end
structure Un(fs ex:List aa)(H H':Hp)(h h':cC):Prop where
 keep:∀b o,h.get? b=some o->H b=none->b∉fs->b∉ex->h'.get? b=some o
 slot:∀b o,h.get? b=some o->H b=none->b∈fs->b∉ex->∃sl,h'.get? b=some {o with slots:=sl}
 free:∀b o,h.get? b=some o->H b=none->b∉ex->H' b=none
 there:∀b o,h.get? b=some o->b∉ex->∃o',h'.get? b=some o'
 tups:∀b xs,H b=some (.tup xs)->H' b=some (.tup xs)
 frzs:∀b o u,H b=some (.frz o u)->H' b=some (.frz o u)
 tbls:∀b ps,H b=some (.tbl ps)->∃more,H' b=some (.tbl (ps++more))
section
variable{fs fs' ex ex':List aa}{H H1 H2:Hp}{h h1 h2 h':cC}{a x e:aa}{o:HO}
theorem Un.any(u:Un fs ex H H1 h h1){b:aa}{ob:Obj}(q:h.get? b=some ob)(n:H b=none)(hx:b∉ex):∃sl,h1.get? b=some {ob with slots:=sl}:=by
 by_cases hb:b∈fs
 ·exact u.slot b ob q n hb hx
 ·exact{ob.slots,u.keep b ob q n hb hx}
theorem Un.kept(k:∀b u,h.get? b=some u->h'.get? b=some u):Un fs ex H H h h':=
 {fun b ob q _ _ _=>k b ob q,fun b ob q _ _ _=>{ob.slots,k b ob q},fun _ _ _ n _=>n,fun b ob q _=>{ob,k b ob q},fun _ _ q=>q,fun _ _ _ q=>q,fun _ ps q=>{#[],by rw[q];simp}}
theorem Un.refl:Un fs ex H H h h:=Un.kept fun _ _ q=>q
theorem Un.laid(k:∀b u,h.get? b=some u->h'.get? b=some u)(hp:h.objs.size<=a)(Z:H a=none):Un fs ex H (upd H a o) h h' where
 keep:=fun b u q _ _ _=>k b u q
 slot:=fun b u q _ _ _=>{u.slots,k b u q}
 free:=fun b u q n _=>by rw[aN (aQ (bM (aP q) hp))];exact n
 there:=fun b u q _=>{u,k b u q}
 tups:=fun b xs q=>by rw[aN (aw q Z)];exact q
 frzs:=fun b u xs q=>by rw[aN (aw q Z)];exact q
 tbls:=fun b ps q=>{#[],by rw[aN (aw q Z),q];simp}
theorem Un.write(Y:Mut (H x))(V:e=x\/H e=some (.own x))(k:∀b u,b≠e->h.get? b=some u->h'.get? b=some u)(W:∃u,h'.get? e=some u):Un fs ex H (upd H x o) h h':=by
 have hx:∀b,H b=none->b≠x:=fun b n z=>by subst z;rw[n]at Y;exact Y
 have hb:∀b,H b=none->b≠e:=fun b n z=>by
  subst z
  rcases V with r|r
  ·exact hx b n r
  ·rw[n]at r;cases r
 have hm:∀b u,H b=some u->¬Mut (some u)->b≠x:=fun b u q nm z=>by subst z;rw[q]at Y;exact nm Y
 refine⟨fun b u q n _ _=>k b u (hb b n) q,fun b u q n _ _=>{u.slots,k b u (hb b n) q},fun b u q n _=>by rw[aN (hx b n)];exact n,fun b u q _=>?_,
  fun b xs q=>by rw[aN (hm b _ q fun z=>z)];exact q,fun b u xs q=>by rw[aN (hm b _ q fun z=>z)];exact q,fun b ps q=>{#[],by rw[aN (hm b _ q fun z=>z),q];simp}⟩
 by_cases Z:b=e
 ·subst Z;exact W
 ·exact{u,k b u Z q}
end
def trk(h:cC)(H:Hp):List aa:=(kL h.objs.size).filter fun a=>(H a).isSome
def yI(h:cC)(H:Hp):cC:=pP h (trk h H)
theorem En(h:cC)(H:Hp):(yI h H).objs.size=h.objs.size:=PySem.W.hideAll_size _ _
theorem Fy{h:cC}{H:Hp}{b:aa}{o:Obj}(e:h.get? b=some o)(n:H b=none):(yI h H).get? b=some o:=
 A1 _ e fun hm=>by
  have q:(H b).isSome=true:=(Js.mp hm).2;rw[n]at q;simp at q
theorem Jt{h:cC}{H:Hp}{b:aa}{o:Obj}(e:(yI h H).get? b=some o):h.get? b=some o/\H b=none:=by
 have Z:h.get? b=some o:=Bb (trk h H) e;refine{Z,?_}
 cases q:H b with
 |none=>rfl
 |some x=>
  have hm:b∈trk h H:=Js.mpr {rM.mpr (aP Z),by simp[q]};have z:(yI h H).get? b=none:=PySem.W.hideAll_none (trk h H) hm;rw[z]at e;cases e
structure Mod(K:af)(mg:Str->Option ae)(base:cC):Prop where
 kin:K.In base
 glob:base.Ns bD mg
 blt:∃mb,base.Ns M0 mb/\∀x:Str,x≠"__name__"->mb x=eS x
 nolimit:base.NoLimit
structure Cx where
 prog:aM
 w:bO
 K:af
 mg:Str->Option ae
 base:cC
 A:cj
 N:List Str
 s₀:ao
 H₀:Hp
 env:Env
 outer:List Env
 stack:List Env
 ex:List aa
 fn:Str->Bool
 calm:Bool
 pn:List (aa×Obj)
 xe:ae->ao->Prop
def frs(l:List Env):List aa:=l.filterMap (·.frame)
abbrev Cx.fs(X:Cx):List aa:=frs X.outer
def Vis(sc:mi)(x:Str):Prop:=sc.names.lookup x=some .local\/sc.names.lookup x=some .cell\/sc.names.lookup x=some .free
def Loc(sc:mi)(x:Str):Prop:=sc.names.lookup x=some .local\/sc.names.lookup x=some .cell
def Look(env:Env)(h:cC)(m:Str->Option ae)(x:Str)(u:ae):Prop:=
 (env.kindOf x=some .local/\m x=some u)\/((env.kindOf x=some .cell\/env.kindOf x=some .free)/\∃c,env.cells.lookup x=some c/\h.IsCell c (some u))
structure Cx.Ok(X:Cx):Prop where
 mod:Mod X.K X.mg X.base
 kind:X.env.scope.kind=.function
 glob:X.env.globals=bD
 blt:X.env.builtins=M0
 above:X.s₀.heap.objs.size<=X.env.locals
 inj:∀x y c,X.env.cells.lookup x=some c->X.env.cells.lookup y=some c->x=y
 has:∀x,(X.env.kindOf x=some .cell\/X.env.kindOf x=some .free)->∃c,X.env.cells.lookup x=some c
 cab:∀x c,X.fn x=true->X.env.cells.lookup x=some c->X.s₀.heap.objs.size<=c
 hd:X.calm=true->X.A.handled=none
 frames:X.A.frames=some X.stack
 stk:X.stack=X.outer\/(X.stack=X.env::X.outer/\X.env.frame=some X.env.locals)
 exf:∀b∈X.ex,b≠X.env.locals/\∀x c,X.env.cells.lookup x=some c->c≠b
 bs:∀b o,X.base.get? b=some o->X.s₀.heap.get? b=some o/\X.H₀ b=none
 bsz:X.base.objs.size<=X.s₀.heap.objs.size
 noex:∀b o,X.base.get? b=some o->b∉X.ex
 exfs:∀b∈X.ex,b∉X.fs
 funs:X.s₀.heap.FunFrames X.base X.outer
 frf:∀b∈X.fs,X.H₀ b=none
structure Inv(X:Cx)(pins:List (aa×Obj))(σ:List (Option V))(H:Hp)(s:ao):Prop where
 ok:X.Ok
 os:s.os=X.s₀.os
 bare:p6 s.gens
 base:Un X.fs X.ex X.H₀ H X.s₀.heap s.heap
 loc:∃m,s.heap.Ns X.env.locals m/\∀(i:Nat) (x:Str) (v:V),X.N[i]?=some x->σ[i]?=some (some v)->Vis X.env.scope x->∃u,RelV v u/\Look X.env s.heap m x u
 cell:∀x c,X.env.cells.lookup x=some c->∃v,s.heap.IsCell c v
 free:H X.env.locals=none
 freeC:∀x c,X.env.cells.lookup x=some c->H c=none
 pin:∀p∈X.pn++pins,s.heap.get? p.1=some p.2/\H p.1=none/\p.1≠X.env.locals/\p.1∉X.fs/\∀v,p.2.data≠.cell v
 hok:HOk X.prog X.w H s.heap
 len:σ.length=X.N.length
section
variable{X:Cx}{pins:List (aa×Obj)}{σ:List (Option V)}{H H':Hp}{s:ao}{h':cC}
theorem Cx.Ok.nofr(ok:X.Ok){b:aa}{o:Obj}(e:X.base.get? b=some o):b∉X.fs:=fun hb=>by
 have:=(ok.funs.mem hb).1;rw[e]at this;cases this
theorem Inv.bs(I:Inv X pins σ H s):∀b o,X.base.get? b=some o->s.heap.get? b=some o/\H b=none:=fun b o e=>
 {I.base.keep b o (I.ok.bs b o e).1 (I.ok.bs b o e).2 (I.ok.nofr e) (I.ok.noex b o e),I.base.free b o (I.ok.bs b o e).1 (I.ok.bs b o e).2 (I.ok.noex b o e)}
theorem Inv.bk(I:Inv X pins σ H s):∀b o,X.base.get? b=some o->s.heap.get? b=some o:=fun b o e=>(I.bs b o e).1
theorem Inv.mod(I:Inv X pins σ H s):Mod X.K X.mg X.base:=I.ok.mod
theorem Inv.kIn(I:Inv X pins σ H s):X.K.In s.heap:=I.ok.mod.kin.keeps I.bk
theorem Inv.fr(I:Inv X pins σ H s):∃m,Fr X.base X.env.locals s.heap m:=
 let ⟨m,Z,_⟩:=I.loc
 {m,Z,I.bk,dB I.ok.bsz I.ok.above}
theorem Inv.lt(I:Inv X pins σ H s):X.env.locals<s.heap.objs.size:=let ⟨_,Z,_⟩:=I.loc;Z.lt
theorem Inv.sz(I:Inv X pins σ H s):X.s₀.heap.objs.size<=s.heap.objs.size:=dB I.ok.above (mj I.lt)
theorem Inv.nofs(I:Inv X pins σ H s){a:aa}(h:s.heap.objs.size<=a):a∉X.fs:=fun hb=>by
 obtain⟨_,o,ho,_⟩:=I.ok.funs.mem hb;exact absurd (bM (aP ho) (dB I.sz h)) (hW _)
theorem Inv.cne(I:Inv X pins σ H s):∀x c,X.env.cells.lookup x=some c->c≠X.env.locals:=fun x c e z=>by
 obtain⟨v,o,ho,hd⟩:=I.cell x c e;obtain⟨m,⟨o',es,ep,Z,Y,_⟩,_⟩:=I.loc;rw[z,Z]at ho;cases ho;rw[Y]at hd;cases hd
theorem Inv.funs(I:Inv X pins σ H s):s.heap.FunFrames X.base X.outer:=by
 have all:∀(l:List Env),(∀b∈frs l,b∈X.fs)->X.s₀.heap.FunFrames X.base l->s.heap.FunFrames X.base l:=by
  intro l
  induction l with
  |nil=>intro _ _;trivial
  |cons env r W=>
   intro hs hl;obtain⟨hk,⟨L,o,Z,V,ho,hd⟩,hr⟩:=hl;have Y:L∈X.fs:=hs L (by unfold frs;rw[sV,Z];exact aC);obtain⟨sl,e⟩:=I.base.slot L o ho (I.ok.frf L Y) Y fun z=>I.ok.exfs L z Y;exact{hk,{L,_,Z,V,e,hd},W (fun b hb=>hs b (by unfold frs;rw[sV,Z];exact ak _ hb)) hr}
 exact all X.outer (fun _ hb=>hb) I.ok.funs
theorem Inv.stack(I:Inv X pins σ H s):s.heap.FunFrames X.base X.stack:=by
 rcases I.ok.stk with e|⟨e,Z⟩
 ·rw[e];exact I.funs
 ·rw[e];obtain⟨m,Y,_⟩:=I.loc;refine .cons (by rw[I.ok.kind];decide) Z Y ?_ I.funs;exact Heap.get?_none_of_le (dB I.ok.bsz I.ok.above)
theorem Inv.stkSub(I:Inv X pins σ H s):∀b∈frs X.stack,b∈X.env.locals::X.fs:=fun b hb=>by
 rcases I.ok.stk with e|⟨e,Z⟩
 ·rw[e]at hb;exact ak _ hb
 ·rw[e]at hb;unfold frs at hb;rw[sV,Z]at hb;exact hb
theorem Inv.stkFree(I:Inv X pins σ H s):∀b∈frs X.stack,H b=none:=fun b hb=>by
 rcases ar.mp (I.stkSub b hb) with e|hb
 ·rw[e];exact I.free
 ·obtain⟨_,o,ho,_⟩:=I.ok.funs.mem hb;exact I.base.free b o ho (I.ok.frf b hb) fun z=>I.ok.exfs b z hb
theorem Inv.step{g':Array GenState}{t':Nat}{d':Drawn}{ch:List aa}(I:Inv X pins σ H s)
  (W:∀b∈ch,(b∈X.ex\/X.s₀.heap.objs.size<=b)/\b≠X.env.locals/\(∀x c,X.env.cells.lookup x=some c->c≠b)/\∀p∈X.pn++pins,p.1≠b)
  (keep:∀b o,b≠X.env.locals->b∉X.fs->b∉ch->s.heap.get? b=some o->H b=none->h'.get? b=some o)
  (slot:∀b o,b≠X.env.locals->b∈X.fs->b∉ch->s.heap.get? b=some o->H b=none->∃sl,h'.get? b=some {o with slots:=sl}) (free:∀b o,b∉ch->s.heap.get? b=some o->H b=none->H' b=none)
  (there:∀b o,b∉ch->s.heap.get? b=some o->∃o',h'.get? b=some o')
  (tups:∀b xs,H b=some (.tup xs)->H' b=some (.tup xs)) (frzs:∀b o u,H b=some (.frz o u)->H' b=some (.frz o u)) (tbls:∀b ps,H b=some (.tbl ps)->∃more,H' b=some (.tbl (ps++more)))
  (ns:∀m,s.heap.Ns X.env.locals m->h'.Ns X.env.locals m) (hok:HOk X.prog X.w H' h') (hg:p6 g') :
  Inv X pins σ H' {s with heap:=h',gens:=g',drawn:=d',toks:=t'}:=by
 have U:∀b o,X.s₀.heap.get? b=some o->b≠X.env.locals:=fun b o e=>aQ (bM (aP e) I.ok.above);have V:∀b o,X.s₀.heap.get? b=some o->b∉X.ex->b∉ch:=fun b o e hx hb=>by
  rcases (W b hb).1 with z|z
  ·exact hx z
  ·exact absurd (bM (aP e) z) (hW _)
 have Y:∀x c,X.env.cells.lookup x=some c->∀v,s.heap.IsCell c v->h'.IsCell c v:=fun x c e v ⟨o,ho,hd⟩=>by
  have Z:c∉ch:=fun z=>(W c z).2.2.1 x c e rfl
  by_cases hc:c∈X.fs
  ·obtain⟨sl,q⟩:=slot c o (I.cne x c e) hc Z ho (I.freeC x c e);exact{_,q,hd}
  ·exact{o,keep c o (I.cne x c e) hc Z ho (I.freeC x c e),hd}
 refine{I.ok,I.os,hg,{fun b o e n hb hx=>?_,fun b o e n hb hx=>?_,fun b o e n hx=>?_,fun b o e hx=>?_,fun b xs e=>tups b xs (I.base.tups b xs e),fun b o xs e=>frzs b o xs (I.base.frzs b o xs e),fun b ps e=>?_},?_,fun x c e=>?_,?_,fun x c e=>?_,fun p hp=>?_,hok,I.len}
 ·exact keep b o (U b o e) hb (V b o e hx) (I.base.keep b o e n hb hx) (I.base.free b o e n hx)
 ·obtain⟨sl,e1⟩:=I.base.slot b o e n hb hx;obtain⟨J,O⟩:=slot b _ (U b o e) hb (V b o e hx) e1 (I.base.free b o e n hx);exact⟨J,O⟩
 ·obtain⟨o',e1⟩:=I.base.there b o e hx;exact free b o' (V b o e hx) e1 (I.base.free b o e n hx)
 ·obtain⟨o',e1⟩:=I.base.there b o e hx;exact there b o' (V b o e hx) e1
 ·obtain⟨g,e1⟩:=I.base.tbls b ps e;obtain⟨m2,O⟩:=tbls b _ e1;exact{g++m2,by rw[O,Array.append_assoc]}
 ·obtain⟨m,hn,hl⟩:=I.loc;refine{m,ns m hn,fun i x v e1 O e3=>?_};obtain⟨u,r,l⟩:=hl i x v e1 O e3;refine{u,r,?_}
  rcases l with l|⟨k,c,e,z⟩
  ·exact .inl l
  ·exact .inr {k,c,e,Y x c e _ z}
 ·obtain⟨v,z⟩:=I.cell x c e;exact{v,Y x c e v z}
 ·obtain⟨m,⟨o,_,_,ho,_⟩,_⟩:=I.loc;exact free _ o (fun z=>(W _ z).2.1 rfl) ho I.free
 ·obtain⟨v,o,ho,hd⟩:=I.cell x c e;exact free c o (fun z=>(W c z).2.2.1 x c e rfl) ho (I.freeC x c e)
 ·obtain⟨e,n,ne,D,d⟩:=I.pin p hp;have Z:p.1∉ch:=fun z=>(W p.1 z).2.2.2 p hp rfl;exact{keep p.1 p.2 ne D Z e n,free p.1 p.2 Z e n,ne,D,d}
theorem Inv.un{t':Nat}(I:Inv X pins σ H s)(u:Un X.fs [] H H' s.heap h')(hok:HOk X.prog X.w H' h'):Inv X pins σ H' {s with heap:=h',toks:=t'}:=by
 obtain⟨m,⟨o,es,ep,ho,r⟩,_⟩:=id I.loc;obtain⟨sl,U⟩:=u.any ho I.free (by simp);exact I.step (g':=s.gens) (d':=s.drawn) (ch:=[]) (fun _ z=>nomatch z) (fun b o _ hb _ e n=>u.keep b o e n hb (by simp)) (fun b o _ hb _ e n=>u.slot b o e n hb (by simp)) (fun b o _ e n=>u.free b o e n (by simp)) (fun b o _ e=>u.there b o e (by simp)) u.tups u.frzs u.tbls (fun O hm=>by
  obtain⟨o',W,Y,Z,V⟩:=hm;rw[ho]at Z;cases Z;exact{_,W,Y,U,V}) hok I.bare
theorem Inv.call{g':Array GenState}{t':Nat}{d':Drawn}{ch:List aa}(I:Inv X pins σ H s)(u:Un (frs X.stack) ch H H' s.heap h')(hok:HOk X.prog X.w H' h')(J:p6 g')
  (Y:∀b∈ch,(b∈X.ex\/X.s₀.heap.objs.size<=b)/\b≠X.env.locals/\(∀x c,X.env.cells.lookup x=some c->c≠b)/\∀p∈X.pn++pins,p.1≠b) :
  Inv X pins σ H' {s with heap:=h',gens:=g',drawn:=d',toks:=t'}:=by
 obtain⟨m,⟨o,es,ep,ho,r⟩,_⟩:=id I.loc;obtain⟨sl,V⟩:=u.any ho I.free fun z=>(Y _ z).2.1 rfl;exact I.step (ch:=ch) Y (fun b o V hb hc e n=>u.keep b o e n (fun z=>(ar.mp (I.stkSub b z)).elim V hb) hc) (fun b o _ _ hc e n=>u.any e n hc) (fun b o hc e n=>u.free b o e n hc) (fun b o hc e=>u.there b o e hc) u.tups u.frzs u.tbls (fun D hm=>by
  obtain⟨o',U,W,Z,O⟩:=hm;rw[ho]at Z;cases Z;exact{_,U,W,V,O}) hok J
theorem Inv.turned{t':Nat}{it:aa}(I:Inv X pins σ H s)(k:∀b o,b≠it->s.heap.get? b=some o->h'.get? b=some o)(V:H it=none)(Y:it≠X.env.locals)
  (h1:it∈X.ex\/X.s₀.heap.objs.size<=it) (h2:∀x c,X.env.cells.lookup x=some c->c≠it) (W:∀p∈X.pn++pins,p.1≠it):Inv X pins σ H {s with heap:=h',toks:=t'}:=by
 have Z:∀b u,H b=some u->b≠it:=fun b u e z=>by rw[z,V]at e;cases e
 refine I.step (g':=s.gens) (d':=s.drawn) (ch:=[it]) (fun b hb=>?_) (fun b o _ _ hc e _=>k b o (fun z=>hc (by simp[z])) e) (fun b o _ _ hc e _=>{o.slots,k b o (fun z=>hc (by simp[z])) e}) (fun _ _ _ _ n=>n)
  (fun b o hc e=>{o,k b o (fun z=>hc (by simp[z])) e}) (fun _ _ e=>e) (fun _ _ _ e=>e) (fun b ps e=>{#[],by rw[e];simp}) (fun m hm=>?_) (fun b u e=>?_) I.bare
 ·have e:b=it:=by simpa using hb
  subst e;exact⟨h1,Y,h2,W⟩
 ·obtain⟨o,es,ep,ho,r⟩:=hm;exact{o,es,ep,k _ o (gi Y) ho,r}
 ·refine (I.hok b u e).stay (fun c v hc q=>k c v ?_ q) (fun _ q=>q) fun _ _ q=>q
  rcases hc with z|z
  ·rw[z];exact Z b u e
  ·exact Z c _ z
theorem Inv.tok(I:Inv X pins σ H s)(t:Nat):Inv X pins σ H {s with toks:=t}:=I.un (h':=s.heap) (t':=t) Un.refl I.hok
theorem Inv.kept{t':Nat}(I:Inv X pins σ H s)(k:∀b u,s.heap.get? b=some u->h'.get? b=some u):Inv X pins σ H {s with heap:=h',toks:=t'}:=I.un (Un.kept k) (I.hok.kept k)
theorem Inv.laid{a:aa}{o:HO}{t':Nat}(I:Inv X pins σ H s)(k:∀b u,s.heap.get? b=some u->h'.get? b=some u)(hp:s.heap.objs.size<=a)(new:eP X.prog X.w (upd H a o) h' a o) :
  Inv X pins σ (upd H a o) {s with heap:=h',toks:=t'}:=I.un (Un.laid k hp (I.hok.fresh hp)) (I.hok.laid k hp new)
theorem Inv.write{x e:aa}{o:HO}{t':Nat}(I:Inv X pins σ H s)(Y:Mut (H x))(W:e=x\/H e=some (.own x))(k:∀b u,b≠e->s.heap.get? b=some u->h'.get? b=some u)(Z:∃u,h'.get? e=some u)
  (new:eP X.prog X.w (upd H x o) h' x o):Inv X pins σ (upd H x o) {s with heap:=h',toks:=t'}:=I.un (Un.write Y W k Z) (I.hok.write Y W k Z new)
theorem Inv.weak{Z:List (Option V)}(I:Inv X pins σ H s)(hl:Z.length=σ.length)(w:∀(i:Nat) v,Z[i]?=some (some v)->σ[i]?=some (some v)):Inv X pins Z H s:=
 {I.ok,I.os,I.bare,I.base,let ⟨m,W,Y⟩:=I.loc;{m,W,fun i x v e1 U e3=>Y i x v e1 (w i v U) e3},I.cell,I.free,I.freeC,I.pin,I.hok,hl.trans I.len}
theorem Inv.pins_of{Z:List (aa×Obj)}(I:Inv X pins σ H s)(h:∀p∈Z,s.heap.get? p.1=some p.2/\H p.1=none/\p.1≠X.env.locals/\p.1∉X.fs/\∀v,p.2.data≠.cell v):Inv X Z σ H s:=
 {I.ok,I.os,I.bare,I.base,I.loc,I.cell,I.free,I.freeC,fun p hp=>(bZ.mp hp).elim (fun z=>I.pin p (gZ _ z)) (h p),I.hok,I.len}
theorem vZ{N:List Str}(Z:N.Nodup){i j:Nat}{x:Str}(a:N[i]?=some x)(b:N[j]?=some x):i=j:=by
 obtain⟨h1,e1⟩:=aG.mp a;obtain⟨h2,Y⟩:=aG.mp b;exact (List.getElem_inj Z).mp (e1.trans Y.symm)
theorem xU{M:Ju}{A:cj}{E:ae->ao->Prop}{i:Nat}{x:Str}{v:V}{u:ae}{Q:Unit->ao->Prop}(I:Inv X pins σ H s)(hN:X.N.Nodup)(hi:X.N[i]?=some x)(hx:Loc X.env.scope x)(r:RelV v u)
  (h:∀s',Inv X pins (σ.set i (some v)) H s'->(∃a,uQ a s.heap s'.heap/\(a=X.env.locals\/X.env.cells.lookup x=some a))->Q () s') (hf:X.fn x=true\/X.env.scope.names.lookup x=some .local:=by first|exact .inl rfl|exact .inr rfl|assumption):aX M A (storeName X.env x u) Q E s:=by
 obtain⟨m,hn,hl⟩:=id I.loc;have ce:(X.env.scope.kind==.class||(X.env.scope.kind==.module&&X.env.locals != X.env.globals))=false:=by rw[I.ok.kind];rfl
 have U:i<σ.length:=by rw[I.len];exact (aG.mp hi).1
 have cne:=I.cne;have Z:∀{a:aa} {h':cC},(∃o,s.heap.get? a=some o/\H a=none)->uQ a s.heap h'->HOk X.prog X.w H h':=fun {a h'} ha hs b ob e=>by
  obtain⟨_,_,Y⟩:=ha;refine (I.hok b ob e).stay (fun c w' hc q=>(hs.2 c ?_).trans q) (fun _ q=>q) fun _ _ q=>q;rintro rfl
  rcases hc with rfl|hc
  ·rw[Y]at e;cases e
  ·rw[Y]at hc;cases hc
 rcases hx with hk|hk
 ·refine wpAny_storeName_local hk hn (fun h' bW hs=>?_) ce;obtain⟨oL,_,_,bI,_⟩:=id hn;refine h _ {I.ok,I.os,I.bare,{fun b o e n hb hx=>?_,fun b o e n hb hx=>?_,I.base.free,fun b o e hx=>?_,I.base.tups,I.base.frzs,I.base.tbls},{_,bW,fun j y v' e1 W e3=>?_},fun y c e=>?_,I.free,I.freeC,fun p hp=>?_,Z ⟨oL,bI,I.free⟩ hs,by simpa using I.len} {_,hs,.inl rfl}
  ·exact (hs.2 b (aQ (bM (aP e) I.ok.above))).trans (I.base.keep b o e n hb hx)
  ·obtain⟨sl,e1⟩:=I.base.slot b o e n hb hx;exact{sl,(hs.2 b (aQ (bM (aP e) I.ok.above))).trans e1}
  ·obtain⟨o',e1⟩:=I.base.there b o e hx;exact{o',(hs.2 b (aQ (bM (aP e) I.ok.above))).trans e1}
  ·by_cases J:j=i
   ·subst J;rw[hi]at e1;cases e1;rw[fX U]at W
    cases W;exact{u,r,.inl {hk,by simp}}
   ·rw[iU (gi J)]at W;obtain⟨u',r',q⟩:=hl j y v' e1 W e3;refine{u',r',?_}
    rcases q with⟨k,e⟩|⟨k,c,e,z⟩
    ·refine .inl {k,?_};have:y≠x:=fun e=>J (vZ hN e1 (e ▸ hi));simp[this,e]
    ·exact .inr {k,c,e,z.sameBut hs (cne y c e)}
  ·obtain⟨w',z⟩:=I.cell y c e;exact{w',z.sameBut hs (cne y c e)}
  ·obtain⟨e,n,ne,nf,d⟩:=I.pin p hp;exact{(hs.2 p.1 ne).trans e,n,ne,nf,d}
 ·have O:X.fn x=true:=by
   rcases hf with z|z
   ·exact z
   ·rw[z]at hk;cases hk
  obtain⟨c,hc⟩:=I.ok.has x (.inl hk);obtain⟨w',z⟩:=I.cell x c hc;refine wpAny_storeName_cell I.ok.kind hk hc z (fun h' ci hs=>?_);obtain⟨oc,cd,D⟩:=id z;refine h {s with heap:=h'} {I.ok,I.os,I.bare,{fun b o e n hb hx=>?_,fun b o e n hb hx=>?_,I.base.free,fun b o e hx=>?_,I.base.tups,I.base.frzs,I.base.tbls},{m,hn.sameBut hs (gi (cne x c hc)),fun j y v' e1 W e3=>?_},fun y c' e=>?_,I.free,I.freeC,fun p hp=>?_,Z {oc,cd,I.freeC x c hc} hs,by simpa using I.len} {c,hs,.inr hc}
  ·exact (hs.2 b (aQ (bM (aP e) (I.ok.cab x c O hc)))).trans (I.base.keep b o e n hb hx)
  ·obtain⟨sl,e1⟩:=I.base.slot b o e n hb hx;exact{sl,(hs.2 b (aQ (bM (aP e) (I.ok.cab x c O hc)))).trans e1}
  ·obtain⟨o',e1⟩:=I.base.there b o e hx;exact{o',(hs.2 b (aQ (bM (aP e) (I.ok.cab x c O hc)))).trans e1}
  ·by_cases J:j=i
   ·subst J;rw[hi]at e1;cases e1;rw[fX U]at W
    cases W;exact{u,r,.inr {.inl hk,c,hc,ci}}
   ·rw[iU (gi J)]at W;obtain⟨u',r',q⟩:=hl j y v' e1 W e3;refine{u',r',?_}
    rcases q with q|⟨k,c',e,z'⟩
    ·exact .inl q
    ·refine .inr {k,c',e,z'.sameBut hs ?_};rintro rfl;exact J (vZ hN e1 (I.ok.inj _ _ _ e hc ▸ hi))
  ·by_cases g:c'=c
   ·subst g;exact{_,ci}
   ·obtain⟨w2,z2⟩:=I.cell y c' e;exact{w2,z2.sameBut hs g}
  ·obtain⟨e,n,ne,nf,d⟩:=I.pin p hp;refine{(hs.2 p.1 ?_).trans e,n,ne,nf,d};intro q;rw[q,cd]at e;have q':oc=p.2:=dP e;exact d w' (by rw[<- q'];exact D)
theorem s9{M:Ju}{A:cj}{E:ae->ao->Prop}{i:Nat}{x:Str}{v:V}{u:ae}{Q:Unit->ao->Prop}(I:Inv X pins σ H s)(Y:X.N.Nodup)(hi:X.N[i]?=some x)(hx:Loc X.env.scope x)(r:RelV v u)
  (h:∀s',Inv X pins (σ.set i (some v)) H s'->Q () s') (Z:X.fn x=true\/X.env.scope.names.lookup x=some .local:=by first|exact .inl rfl|exact .inr rfl|assumption):aX M A (storeName X.env x u) Q E s:=
 xU I Y hi hx r (fun s' W _=>h s' W) Z
theorem Inv.call'{s':ao}{ch:List aa}(I:Inv X pins σ H s)(ho:s'.os=s.os)(u:Un (frs X.stack) ch H H' s.heap s'.heap)(hok:HOk X.prog X.w H' s'.heap)(Y:p6 s'.gens)
  (Z:∀b∈ch,(b∈X.ex\/X.s₀.heap.objs.size<=b)/\b≠X.env.locals/\(∀x c,X.env.cells.lookup x=some c->c≠b)/\∀p∈X.pn++pins,p.1≠b):Inv X pins σ H' s':=by
 obtain⟨h',g',d',t',o'⟩:=s';have e:o'=s.os:=ho;subst e;exact I.call (g':=g') (t':=t') (d':=d') u hok Y Z
end
abbrev XK:=ae->Option aa->Hp->Prop
abbrev St:=List (Option V)
abbrev VK:=V->Hp->Prop
abbrev TE:=St->Hp->VK->Prop
abbrev TT:=St->Hp->(Bool->Hp->Prop)->Prop
abbrev TA:=St->Hp->(List V->Hp->Prop)->Prop
structure nv where
 nx:St->Hp->Prop
 rt:VK
 bk:St->Hp->Prop:=fun _ _=>False
 ct:St->Hp->Prop:=fun _ _=>False
abbrev TS:=nv->St->Hp->Prop
def EP(X:Cx)(pins:List (aa×Obj))(σ:St)(Q:VK)(u:ae)(s':ao):Prop:=∃v H',Inv X pins σ H' s'/\RelV v u/\Q v H'
def TP(X:Cx)(pins:List (aa×Obj))(σ:St)(Q:Bool->Hp->Prop)(b:Bool)(s':ao):Prop:=∃H',Inv X pins σ H' s'/\Q b H'
def AP(X:Cx)(pins:List (aa×Obj))(σ:St)(Q:List V->Hp->Prop)(us:List ae)(s':ao):Prop:=∃vs H',Inv X pins σ H' s'/\c9 vs us/\Q vs H'
def SP(X:Cx)(pins:List (aa×Obj))(D:nv)(f:Flow)(s':ao):Prop:=
 match f with
 |.next=>∃Z H',Inv X pins Z H' s'/\D.nx Z H'
 |.brk=>∃Z H',Inv X pins Z H' s'/\D.bk Z H'
 |.cont=>∃Z H',Inv X pins Z H' s'/\D.ct Z H'
 |.ret u=>∃v Z H',Inv X pins Z H' s'/\RelV v u/\D.rt v H'
def PE(X:Cx)(e:cU)(t:TE):Prop:=
 ∀(pins:List (aa×Obj)) (s:ao) (σ:St) (H:Hp) (Q:VK),Inv X pins σ H s->t σ H Q->aX (bA X.prog X.w) X.A (gf e X.env) (EP X pins σ Q) X.xe s
def PT(X:Cx)(e:cU)(t:TT):Prop:=
 ∀(pins:List (aa×Obj)) (s:ao) (σ:St) (H:Hp) (Q:Bool->Hp->Prop),Inv X pins σ H s->t σ H Q->aX (bA X.prog X.w) X.A (Fz e X.env (gf e X.env)) (TP X pins σ Q) X.xe s
def PW(X:Cx)(e:cU)(t:TT):Prop:=
 ∀(Z:Sem ae) (pins:List (aa×Obj)) (s:ao) (σ:St) (H:Hp) (Q:Bool->Hp->Prop),Inv X pins σ H s->t σ H Q->aX (bA X.prog X.w) X.A (Fz e X.env Z) (TP X pins σ Q) X.xe s
theorem PW.pt{X:Cx}{e:cU}{t:TT}(h:PW X e t):PT X e t:=h _
def PA(X:Cx)(es:List cU)(t:TA):Prop:=
 ∀(pos:Pos) (pins:List (aa×Obj)) (s:ao) (σ:St) (H:Hp) (Q:List V->Hp->Prop),Inv X pins σ H s->t σ H Q->aX (bA X.prog X.w) X.A (spliced (jj pos (cK es X.env))) (AP X pins σ Q) X.xe s
def PS(X:Cx)(st:cX)(t:TS):Prop:=
 ∀(pins:List (aa×Obj)) (s:ao) (σ:St) (H:Hp) (D:nv),Inv X pins σ H s->t D σ H->aX (bA X.prog X.w) X.A (exec st X.env) (SP X pins D) X.xe s
def PSs(X:Cx)(st:List cX)(t:TS):Prop:=
 ∀(pins:List (aa×Obj)) (s:ao) (σ:St) (H:Hp) (D:nv),Inv X pins σ H s->t D σ H->aX (bA X.prog X.w) X.A (execs st X.env) (SP X pins D) X.xe s
theorem thn{Y:Type}{t:Sem Y}{Q Z:Y->ao->Prop}{M:Ju}{A:cj}{E:ae->ao->Prop}{s:ao}(h:aX M A t Q E s)(W:∀a s,Q a s->Z a s):aX M A t Z E s:=eK h W fun _ _ x=>x
section
variable{X:Cx}
theorem bin{a b:cU}{ta tb:TE}(ha:PE X a ta)(hb:PE X b tb){pins:List (aa×Obj)}{s:ao}{σ:St}{H:Hp}{R:V->V->Hp->Prop}(I:Inv X pins σ H s)(h:ta σ H fun x H1=>tb σ H1 fun y H2=>R x y H2)
  {W:Type} {Q:W->ao->Prop} {f:ae->ae->Sem W}
  (D:∀v u s2 x y H2,Inv X pins σ H2 s2->RelV x v->RelV y u->R x y H2->aX (bA X.prog X.w) X.A (f v u) Q X.xe s2) :
  aX (bA X.prog X.w) X.A (gf a X.env) (fun v Y=>aX (bA X.prog X.w) X.A (gf b X.env) (fun u Z=>aX (bA X.prog X.w) X.A (f v u) Q X.xe Z) X.xe Y) X.xe s:=by
 refine thn (ha pins s σ H _ I h) fun v U ⟨x,H1,J,r1,g⟩=>?_;refine thn (hb pins U σ H1 _ J g) fun u s2 ⟨y,H2,O,r2,z⟩=>?_;exact D v u s2 x y H2 O r1 r2 z
set_option genSizeOf false
set_option genInjectivity false
inductive TVar(i:Nat)(σ:St)(H:Hp)(Q:VK):Prop where
 |mk(v:V)(h:σ[i]?=some (some v))(q:Q v H):TVar i σ H Q
def Jv(i:Nat):TE:=fun σ H Q=>TVar i σ H Q
def tC(v:V):TE:=fun _ H Q=>Q v H
theorem M3{i:Nat}{x:Str}{pos:Pos}(W:X.N[i]?=some x)(hv:Vis X.env.scope x)(hd:(x==("__debug__":Str))=false:=by decide)(Y:(x==("__classdict__":Str))=false:=by decide):PE X (.Name x pos) (Jv i):=by
 intro pins s σ H Q I h;obtain⟨v,e,h⟩:=h;obtain⟨m,V,hl⟩:=I.loc;obtain⟨u,r,l⟩:=hl i x v W e hv;have fin:EP X pins σ Q u s:=⟨v,H,I,r,h⟩
 rcases l with⟨hk,hm⟩|⟨hk,c,hc,Z⟩
 ·exact M4 (wpAny_loadName_local I.ok.kind hk V hm fin) hd
 ·rcases hk with hk|hk
  ·exact M4 (wpAny_loadName_cell I.ok.kind hk hc Z fin) hd
  ·exact M4 (wpAny_loadName_free I.ok.kind hk hc Z fin Y) hd
theorem av {i j pos}:PE X (.Constant (.int i) j pos) (tC (.int i)):=fun _ _ _ H _ I h=>wpAny_Constant_int {.int i,H,I.tok _,{_,rfl},h}
theorem oa {b j pos}:PE X (.Constant (.bool b) j pos) (tC (.bl b)):=fun _ _ _ H _ I h=>Constant_bool {.bl b,H,I,rfl,h}
theorem v9 {j pos}:PE X (.Constant .none j pos) (tC .non):=fun _ _ _ H _ I h=>Eo {.non,H,I,rfl,h}
theorem bS {x j pos}:PE X (.Constant (.str x) j pos) (tC (.str x)):=fun _ _ _ H _ I h=>Calls.Constant_str {.str x,H,I.tok _,{_,rfl},h}
def Gl(X:Cx)(x:Str):Prop:=X.env.kindOf x=some .globalImplicit
theorem qY{E:ae->ao->Prop}{pins:List (aa×Obj)}{s:ao}{σ:St}{H:Hp}{x:Str}{u:ae}{pos:Pos}{Q:ae->ao->Prop}(I:Inv X pins σ H s)(Z:Gl X x)(hm:X.mg x=some u)(h:Q u s)
  (hd:(x==("__debug__":Str))=false:=by decide):aX (bA X.prog X.w) X.A (gf (.Name x pos) X.env) Q E s:=
 xt I.ok.kind Z (Calls.loadGlobal_global (by rw[I.ok.glob];exact I.mod.glob.keeps I.bk) hm h) hd
theorem uf{E:ae->ao->Prop}{pins:List (aa×Obj)}{s:ao}{σ:St}{H:Hp}{x:Str}{u:ae}{pos:Pos}{Q:ae->ao->Prop}(I:Inv X pins σ H s)(Y:Gl X x)(hm:X.mg x=none)(hv:eS x=some u)(h:Q u s)
  (Z:x≠"__name__":=by decide) (hd:(x==("__debug__":Str))=false:=by decide):aX (bA X.prog X.w) X.A (gf (.Name x pos) X.env) Q E s:=by
 obtain⟨W,h1,h2⟩:=I.mod.blt;exact xt I.ok.kind Y (Calls.loadGlobal_builtin (by rw[I.ok.glob];exact I.mod.glob.keeps I.bk) hm (by rw[I.ok.blt];exact h1.keeps I.bk) ((h2 x Z).trans hv) h) hd
theorem hU{x:Str}{v:V}{u:ae}{pos:Pos}(Z:Gl X x)(hm:X.mg x=some u)(r:RelV v u)(hd:(x==("__debug__":Str))=false:=by decide):PE X (.Name x pos) (tC v):=
 fun _ _ _ H _ I h=>qY I Z hm ⟨v,H,I,r,h⟩ hd
theorem kY{x:Str}{v:V}{u:ae}{pos:Pos}(Z:Gl X x)(hm:X.mg x=none)(hv:eS x=some u)(r:RelV v u)(Y:x≠"__name__":=by decide)(hd:(x==("__debug__":Str))=false:=by decide):PE X (.Name x pos) (tC v):=
 fun _ _ _ H _ I h=>uf I Z hm hv ⟨v,H,I,r,h⟩ Y hd
variable{a b:cU}{ta tb:TE}{pos:Pos}
def PC(X:Cx)(op:OT)(a b:cU)(t:TE):Prop:=
 ∀(pins:List (aa×Obj)) (s:ao) (σ:St) (H:Hp) (Q:VK),Inv X pins σ H s->t σ H Q ->
  aX (bA X.prog X.w) X.A (gf a X.env) (fun v Z=>aX (bA X.prog X.w) X.A (gf b X.env) (fun u Y=>aX (bA X.prog X.w) X.A (c5 op v u) (EP X pins σ Q) X.xe Y) X.xe Z) X.xe s
theorem FA(b:cU){op:OT}(h:op≠.In)(h2:op≠.NotIn):jP op b=false:=by
 have e1:(op==CmpOp.In)=false:=by cases op<;>first|rfl|exact absurd rfl h
 have Z:(op==CmpOp.NotIn)=false:=by cases op<;>first|rfl|exact absurd rfl h2
 cases b<;>simp[jP,e1,Z]
def tIsN(ta:TE):TE:=fun σ H Q=>ta σ H fun x H1=>Q (.bl (decide (x=.non))) H1
def tNotN(ta:TE):TE:=fun σ H Q=>ta σ H fun x H1=>Q (.bl (!decide (x=.non))) H1
theorem RelV.none_iff{x:V}{v:ae}(r:RelV x v):(v==Value.none)=decide (x=.non):=by
 cases x with
 |non=>cases r;rfl
 |bl _=>cases r;rfl
 |int _=>obtain⟨t,rfl⟩:=r;rfl
 |str _=>obtain⟨t,rfl⟩:=r;rfl
 |byt _=>obtain⟨t,rfl⟩:=r;rfl
 |flt _=>obtain⟨t,rfl⟩:=r;rfl
 |ref _=>cases r;rfl
 |ty _=>cases r;rfl
theorem FB {j pos'} (ha:PE X a ta):PC X .Is a (.Constant .none j pos') (tIsN ta):=by
 intro pins s σ H Q I h;refine thn (ha pins s σ H _ I h) fun v W ⟨x,H1,Z,r1,Y⟩=>?_;exact Eo (is_none_gen {.bl _,H1,Z,by rw[r1.none_iff];rfl,Y})
theorem yJ {j pos'} (ha:PE X a ta):PC X .IsNot a (.Constant .none j pos') (tNotN ta):=by
 intro pins s σ H Q I h;refine thn (ha pins s σ H _ I h) fun v W ⟨x,H1,Z,r1,Y⟩=>?_;exact Eo (isnot_none_gen {.bl _,H1,Z,by rw[r1.none_iff];rfl,Y})
inductive BlI(x:V)(H:Hp)(Q:Bool->Hp->Prop):Prop where
 |mk(c:Bool)(h:x=.bl c)(q:Q c H):BlI x H Q
def tB(t:TE):TT:=fun σ H Q=>t σ H fun x H1=>BlI x H1 Q
theorem qe{op:OT}{t:TE}(h:PC X op a b t)(h1:jP op b=false:=by first|exact FA _ (by decide) (by decide)|rfl):PT X (.Compare a [op] [b] pos) (tB t):=by
 intro pins s σ H Q I hw;refine Ji (thn (h pins s σ H _ I hw) fun v V h1=>thn h1 fun u s2 h2=>thn h2 fun c W ⟨x,H1,Z,r1,Y⟩=>?_) h1;obtain⟨d,rfl,q⟩:=Y
 cases r1;exact iZ ⟨H1,Z,q⟩
theorem gJ{e:cU}{t:TE}(h:PE X e t)(Y:∀Z,Fz e X.env Z=(do let v <- Z;xu e.pos;rZ [v] (truthy v)):=by intro _;rfl):PT X e (tB t):=by
 intro pins s σ H Q I hw;refine isTrue_plain (thn (h pins s σ H _ I hw) fun v U ⟨x,H1,W,r1,V⟩=>?_) (Y _);obtain⟨d,rfl,q⟩:=V
 cases r1;exact iZ ⟨H1,W,q⟩
variable{tA tB':TT}{rest:List cU}
def tAnd(t u:TT):TT:=fun σ H Q=>t σ H fun c H1=>if c=true then u σ H1 Q else Q false H1
def tOr(t u:TT):TT:=fun σ H Q=>t σ H fun c H1=>if c=true then Q true H1 else u σ H1 Q
def tNot(t:TT):TT:=fun σ H Q=>t σ H fun c H1=>Q (!c) H1
theorem iM(ha:PT X a tA):PW X (.BoolOp .And [a] pos) tA:=by
 intro Y pins s σ H Q I h;refine isTrue_and (thn (ha pins s σ H Q I h) fun c Z e=>?_)
 cases c with
 |true=>exact isTrue_and_nil e
 |false=>exact e
theorem wc(ha:PT X a tA):PW X (.BoolOp .Or [a] pos) tA:=by
 intro Y pins s σ H Q I h;refine isTrue_or (thn (ha pins s σ H Q I h) fun c Z e=>?_)
 cases c with
 |false=>exact isTrue_or_nil e
 |true=>exact e
theorem jA(ha:PT X a tA)(hb:PW X (.BoolOp .And (b::rest) pos) tB'):PW X (.BoolOp .And (a::b::rest) pos) (tAnd tA tB'):=by
 intro V pins s σ H Q I h;refine isTrue_and (thn (ha pins s σ H _ I h) fun c W ⟨H1,Z,Y⟩=>?_)
 cases c with
 |true=>exact hb V pins W σ H1 Q Z Y
 |false=>exact⟨H1,Z,Y⟩
theorem z7(ha:PT X a tA)(hb:PW X (.BoolOp .Or (b::rest) pos) tB'):PW X (.BoolOp .Or (a::b::rest) pos) (tOr tA tB'):=by
 intro V pins s σ H Q I h;refine isTrue_or (thn (ha pins s σ H _ I h) fun c W ⟨H1,Z,Y⟩=>?_)
 cases c with
 |true=>exact⟨H1,Z,Y⟩
 |false=>exact hb V pins W σ H1 Q Z Y
theorem ny(ha:PT X a tA):PT X (.UnaryOp .Not a pos) (tNot tA):=by
 intro pins s σ H Q I h;exact isTrue_not (ha pins s σ H (fun c H1=>Q (!c) H1) I h)
def tAndV(ta tb:TE):TE:=fun σ H Q=>ta σ H fun x H1=>∃c,x=.bl c/\if c=true then tb σ H1 Q else Q (.bl false) H1
theorem M5 {op} {t:TE} (h:PE X a t):PE X (.BoolOp op [a] pos) t:=fun pins s σ H Q I hw=>BoolOp_one (h pins s σ H Q I hw)
theorem M7(ha:PE X a ta)(hb:PE X (.BoolOp .And (b::rest) pos) tb):PE X (.BoolOp .And (a::b::rest) pos) (tAndV ta tb):=by
 intro pins s σ H Q I h;refine BoolOp_and (thn (ha pins s σ H _ I h) fun v W ⟨x,H1,Y,r1,Z⟩=>?_);obtain⟨c,rfl,Z⟩:=Z
 cases r1;refine iZ ?_
 cases c with
 |true=>exact hb pins W σ H1 Q Y Z
 |false=>exact{.bl false,H1,Y,rfl,Z}
def tIf(t:TT)(ta tb:TE):TE:=fun σ H Q=>t σ H fun c H1=>if c=true then ta σ H1 Q else tb σ H1 Q
theorem wj{c:cU}(hc:PT X c tA)(ha:PE X a ta)(hb:PE X b tb):PE X (.IfExp c a b pos) (tIf tA ta tb):=by
 intro pins s σ H Q I h;refine wpAny_IfExp (thn (hc pins s σ H _ I h) fun d Z ⟨H1,Y,W⟩=>?_)
 cases d with
 |true=>exact ha pins Z σ H1 Q Y W
 |false=>exact hb pins Z σ H1 Q Y W
end
def SqL(K:af)(H:Hp)(a:aa)(xs:List V):Prop:=
 Rd H a (.lst xs) \/
  ∃(o:Obj) (Z:Array ae) (n:Nat),K.lookup a=some o/\o.cls=.type "list"/\o.dict=none/\o.data=.seq Z n/\Z.size<=aB/\c9 xs Z.toList
def SqT(K:af)(H:Hp)(a:aa)(xs:List V):Prop:=
 Rd H a (.tup xs) \/
  ∃(o:Obj) (Z:Array ae) (n:Nat),K.lookup a=some o/\o.cls=.type "tuple"/\o.data=.seq Z n/\Z.size<=aB/\c9 xs Z.toList
def absV:ae->Option V
 |.none=>some .non
 |.bool b=>some (.bl b)
 |.int i _=>some (.int i)
 |.str x _=>some (.str x)
 |.bytes b _=>some (.byt b)
 |.float b _=>some (.flt b)
 |.ref a=>some (.ref a)
 |.type n=>some (.ty n)
 |_=>none
theorem RelV.abs{x:V}{u:ae}(r:RelV x u):absV u=some x:=by
 cases x with
 |non=>cases r;rfl
 |bl _=>cases r;rfl
 |int _=>obtain⟨t,rfl⟩:=r;rfl
 |str _=>obtain⟨t,rfl⟩:=r;rfl
 |byt _=>obtain⟨t,rfl⟩:=r;rfl
 |flt _=>obtain⟨t,rfl⟩:=r;rfl
 |ref _=>cases r;rfl
 |ty _=>cases r;rfl
theorem RelV.inj{x y:V}{u:ae}(r:RelV x u)(q:RelV y u):x=y:=dP (r.abs.symm.trans q.abs)
theorem c9.inj:∀{xs ys:List V} {us:List ae},c9 xs us->c9 ys us->xs=ys
 |_,_,_,.nil,.nil=>rfl
 |_,_,_,.cons r t,.cons Z t'=>by rw[r.inj Z,c9.inj t t']
section
variable{X:Cx}{pins:List (aa×Obj)}{σ:St}{H:Hp}{s:ao}{a:aa}{xs ys:List V}
theorem SqL.of{K:af}(h:H a=some (.lst xs)):SqL K H a xs:=.inl (.inl h)
theorem SqT.of{K:af}(h:H a=some (.tup xs)):SqT K H a xs:=.inl (.inl h)
theorem Inv.list(I:Inv X pins σ H s)(h:SqL X.K H a xs):∃Z:List ae,c9 xs Z/\PlainL s.heap a Z.toArray/\xs.length<=aB:=by
 rcases h with h|⟨o,Z,n,hk,hc,hd,hs,Y,r⟩
 ·obtain⟨z,Z,n,r,e⟩:=h.ok I.hok;exact{Z,r,{_,n,e,rfl,rfl,rfl},z}
 ·refine{Z.toList,r,{o,n,I.kIn a o hk,hc,hd,by simpa using hs},?_};have e:=r.length;simp only[fY]at e;omega
theorem Inv.tuple(I:Inv X pins σ H s)(h:SqT X.K H a xs):∃Z:List ae,c9 xs Z/\rJ s.heap a Z.toArray/\xs.length<=aB:=by
 rcases h with h|⟨o,Z,n,hk,hc,hs,Y,r⟩
 ·obtain⟨z,Z,r,p⟩:=h.ok I.hok;exact⟨Z,r,p,z⟩
 ·refine{Z.toList,r,{o,I.kIn a o hk,hc,n,by simpa using hs},?_};have e:=r.length;simp only[fY]at e;omega
theorem Inv.list_inj(I:Inv X pins σ H s)(h:SqL X.K H a xs)(h':SqL X.K H a ys):xs=ys:=by
 obtain⟨Z,r,⟨o,n,e,_,_,d⟩,_⟩:=I.list h;obtain⟨its',W,⟨o',V,Y,_,_,d'⟩,_⟩:=I.list h';rw[e]at Y;cases Y;rw[d]at d';injection d' with d1 _;have:Z=its':=by simpa using congrArg M8 d1
 subst this;exact r.inj W
theorem Inv.tuple_inj(I:Inv X pins σ H s)(h:SqT X.K H a xs)(h':SqT X.K H a ys):xs=ys:=by
 obtain⟨Z,r,⟨o,e,_,n,d⟩,_⟩:=I.tuple h;obtain⟨its',W,⟨o',Y,_,V,d'⟩,_⟩:=I.tuple h';rw[e]at Y;cases Y;rw[d]at d';injection d' with d1 _;have:Z=its':=by simpa using congrArg M8 d1
 subst this;exact r.inj W
end
abbrev Cx.wish(X:Cx)(E:ae->ao->Prop):Cx:={X with xe:=E}
abbrev Cx.nox(X:Cx):Cx:=X.wish fun _ _=>False
theorem Cx.Ok.wish{X:Cx}(ok:X.Ok)(E:ae->ao->Prop):(X.wish E).Ok:=
 ⟨ok.mod,ok.kind,ok.glob,ok.blt,ok.above,ok.inj,ok.has,ok.cab,ok.hd,ok.frames,ok.stk,ok.exf,ok.bs,ok.bsz,ok.noex,ok.exfs,ok.funs,ok.frf⟩
theorem Cx.Ok.unwish{X:Cx}{E:ae->ao->Prop}(ok:(X.wish E).Ok):X.Ok:=
 ⟨ok.mod,ok.kind,ok.glob,ok.blt,ok.above,ok.inj,ok.has,ok.cab,ok.hd,ok.frames,ok.stk,ok.exf,ok.bs,ok.bsz,ok.noex,ok.exfs,ok.funs,ok.frf⟩
section
variable{X:Cx}{pins:List (aa×Obj)}{σ:St}{H:Hp}{s:ao}{E:ae->ao->Prop}
theorem Inv.wish(I:Inv X pins σ H s)(E:ae->ao->Prop):Inv (X.wish E) pins σ H s:={I.ok.wish E,I.os,I.bare,I.base,I.loc,I.cell,I.free,I.freeC,I.pin,I.hok,I.len}
theorem Inv.unwish(I:Inv (X.wish E) pins σ H s):Inv X pins σ H s:=⟨I.ok.unwish,I.os,I.bare,I.base,I.loc,I.cell,I.free,I.freeC,I.pin,I.hok,I.len⟩
theorem SP.unwish{D:nv}{f:Flow}{s':ao}(h:SP (X.wish E) pins D f s'):SP X pins D f s':=by
 cases f with
 |next=>obtain⟨Z,H',I,q⟩:=h;exact⟨Z,H',I.unwish,q⟩
 |brk=>obtain⟨Z,H',I,q⟩:=h;exact⟨Z,H',I.unwish,q⟩
 |cont=>obtain⟨Z,H',I,q⟩:=h;exact⟨Z,H',I.unwish,q⟩
 |ret u=>obtain⟨v,Z,H',I,r,q⟩:=h;exact⟨v,Z,H',I.unwish,r,q⟩
theorem PSs.nox{st:List cX}{t:TS}(h:PSs X.nox st t):PSs X st t:=fun pins s σ H D I hw=>
 eK (h pins s σ H D (I.wish _) hw) (fun _ _ q=>q.unwish) fun _ _ z=>cY z
end
section
variable{X:Cx}{st:cX}{rest:List cX}{t u:TS}{e:cU}{te:TE}{pos:Pos}
def jq:TS:=fun D σ H=>D.nx σ H
def M9(t u:TS):TS:=fun D σ H=>t {D with nx:=u D} σ H
theorem bP:PSs X [] jq:=fun _ _ σ H _ I h=>nA ⟨σ,H,I,h⟩
theorem ah(h1:PS X st t)(h2:PSs X rest u):PSs X (st::rest) (M9 t u):=by
 intro pins s σ H D I h;refine wpAny_execs_cons (thn (h1 pins s σ H {D with nx:=u D} I h) fun f Y q=>?_)
 cases f with
 |next=>
  obtain⟨Z,H',W,q⟩:=q;exact h2 pins Y Z H' D W q
 |ret v=>exact q
 |brk=>exact q
 |cont=>exact q
theorem aA(h1:PS X st t):PSs X [st] t:=by
 intro pins s σ H D I h;refine wpAny_execs_cons (thn (h1 pins s σ H D I h) fun f Z q=>?_)
 cases f with
 |next=>exact nA q
 |ret v=>exact q
 |brk=>exact q
 |cont=>exact q
theorem Inv.quiet{pins:List (aa×Obj)}{σ:St}{H:Hp}{s:ao}(I:Inv X pins σ H s):interactive X.env=false:=by simp[interactive,I.ok.kind]
def tDrop(te:TE):TS:=fun D σ H=>te σ H fun _ H1=>D.nx σ H1
theorem e7(W:PE X e te)(hs:uR e none pos.line X.env=pure false:=by rfl):PS X (.Expr e pos) (tDrop te):=by
 intro pins s σ H D I h;exact wpAny_Expr_any (thn (W pins s σ H _ I h) fun v V ⟨x,H1,Z,r1,Y⟩=>⟨σ,H1,Z,Y⟩) I.quiet hs
def tRet(te:TE):TS:=fun D σ H=>te σ H D.rt
theorem bE(W:PE X e te):PS X (.Return (some e) pos) (tRet te):=by
 intro pins s σ H D I h;exact wpAny_Return_some (thn (W pins s σ H _ I h) fun v V ⟨x,H1,Z,r1,Y⟩=>⟨x,σ,H1,Z,r1,Y⟩)
def Jw(c:TT)(t u:TS):TS:=fun D σ H=>c σ H fun b H1=>if b=true then t D σ H1 else u D σ H1
theorem cH{c:cU}{a b:List cX}{tc:TT}(hc:PT X c tc)(ha:PSs X a t)(hb:PSs X b u):PS X (.If c a b pos) (Jw tc t u):=by
 intro pins s σ H D I h;refine wpAny_If (thn (hc pins s σ H _ I h) fun d W ⟨H1,Z,Y⟩=>?_)
 cases d with
 |true=>exact ha pins W σ H1 D Z Y
 |false=>exact hb pins W σ H1 D Z Y
def Na:TS:=fun _ _ _=>False
theorem xV{sts:List cX}:PSs X sts Na:=fun _ _ _ _ _ _ h=>h.elim
end
abbrev TG:=V->St->Hp->(St->Hp->Prop)->Prop
abbrev TGs:=List V->St->Hp->(St->Hp->Prop)->Prop
def PG(X:Cx)(Z:cU)(t:TG):Prop:=
 ∀(pins:List (aa×Obj)) (s:ao) (σ:St) (H:Hp) (v:V) (u:ae) (Q:St->Hp->Prop),Inv X pins σ H s->RelV v u->t v σ H Q ->
  aX (bA X.prog X.w) X.A (yK Z X.env u) (fun _ s'=>∃Y H',Inv X pins Y H' s'/\Q Y H') X.xe s
def PGs(X:Cx)(Y:List cU)(t:TGs):Prop:=
 ∀(pins:List (aa×Obj)) (s:ao) (σ:St) (H:Hp) (vs:List V) (us:List ae) (Q:St->Hp->Prop),Inv X pins σ H s->c9 vs us->t vs σ H Q ->
  aX (bA X.prog X.w) X.A (assignInOrder ((lG Y X.env).map (·.2)) us) (fun _ s'=>∃Z H',Inv X pins Z H' s'/\Q Z H') X.xe s
abbrev Nb:=V->V->V->Hp->(Hp->Prop)->Prop
def PSet(X:Cx)(t:Nb):Prop:=
 ∀(pins:List (aa×Obj)) (s:ao) (σ:St) (H:Hp) (o i v:V) (Z Y u:ae) (Q:Hp->Prop),Inv X pins σ H s->RelV o Z->RelV i Y->RelV v u->t o i v H Q ->
  aX (bA X.prog X.w) X.A (setItem Z Y u) (fun _ s'=>∃H',Inv X pins σ H' s'/\Q H') X.xe s
section
variable{X:Cx}{pos:Pos}
def Cj(i:Nat):TG:=fun v σ H Q=>Q (σ.set i (some v)) H
theorem eA{i:Nat}{x:Str}(Y:X.N.Nodup)(hi:X.N[i]?=some x)(hx:Loc X.env.scope x)(Z:X.fn x=true\/X.env.scope.names.lookup x=some .local:=by first|exact .inl rfl|exact .inr rfl|assumption):PG X (.Name x pos) (Cj i):=by
 intro pins s σ H v u Q I r h;exact OU (s9 I Y hi hx r (fun s' W=>{_,H,W,h}) Z)
def gNil:TGs:=fun vs σ H Q=>vs=[]/\Q σ H
inductive Ln(t:TG)(u:TGs)(vs:List V)(σ:St)(H:Hp)(Q:St->Hp->Prop):Prop where
 |mk(v:V)(r:List V)(h:vs=v::r)(q:t v σ H fun σ' H'=>u r σ' H' Q):Ln t u vs σ H Q
def gCons(t:TG)(u:TGs):TGs:=fun vs σ H Q=>Ln t u vs σ H Q
theorem vE:PGs X [] gNil:=by
 intro pins s σ H vs us Q I r h;obtain⟨e,h⟩:=h;subst e
 cases r;exact assignInOrder_nil ⟨σ,H,I,h⟩
theorem km{e:cU}{es:List cU}{t:TG}{u:TGs}(h1:PG X e t)(h2:PGs X es u)
  (hs:(lG (e::es) X.env).map (·.2)=yK e X.env::(lG es X.env).map (·.2):=by rfl):PGs X (e::es) (gCons t u):=by
 intro pins s σ H vs us Q I r h;obtain⟨v,O,e1,h⟩:=h;subst e1
 cases r with
 |cons r W=>
  rw[hs];refine assignInOrder_cons (thn (h1 pins s σ H _ _ _ I r h) fun _ Y ⟨Z,H1,V,U⟩=>?_);exact h2 pins Y Z H1 _ _ Q V W U
inductive GTup(K:af)(n:Nat)(t:TGs)(v:V)(σ:St)(H:Hp)(Q:St->Hp->Prop):Prop where
 |mk(a:aa)(xs:List V)(h:v=.ref a)(s:SqT K H a xs)(l:xs.length=n)(q:t xs σ H Q):GTup K n t v σ H Q
def gTup(K:af)(n:Nat)(t:TGs):TG:=fun v σ H Q=>GTup K n t v σ H Q
theorem yL{es:List cU}{k:Nat}{t:TGs}{n:Nat}(hc:X.calm=true)(h:PGs X es t)
  (W:(lG es X.env).length=n:=by rfl) (hst:(lG es X.env).findIdx? (·.1)=none:=by rfl):PG X (.Tuple es k pos) (gTup X.K n t):=by
 intro pins s σ H v u Q I r hw;obtain⟨a,xs,e1,hq,hl,hw⟩:=hw;subst e1
 cases r;obtain⟨Y,rv,ht,V⟩:=I.tuple hq;refine assign_Tuple_tuple (I.ok.hd hc) ht (by simp[W,<- hl,rv.length]) hst fun h' hx=>?_;have Z:Inv X pins σ H {s with heap:=h'}:=I.kept (t':=s.toks) fun b o e=>hx b o (aQ (aP e)) e;exact h pins _ σ H xs _ Q Z (by simpa using rv) hw
def gSub(to Y:TE)(t:Nb):TG:=fun v σ H Q=>to σ H fun o H1=>Y σ H1 fun i H2=>t o i v H2 fun Z=>Q σ Z
theorem yM{o i:cU}{to W:TE}{t:Nb}(ho:PE X o to)(hi:PE X i W)(hs:PSet X t)
  (ha:∀v,yK (.Subscript o i pos) X.env v=(do
   let Z <- rZ [v] (gf o X.env)
   let Y <- rZ [v,Z] (gf i X.env)
   xu pos
   rZ [v,Z,Y] (setItem Z Y v)
   release [v,Z,Y] []):=by intro _;rfl):PG X (.Subscript o i pos) (gSub to W t):=by
 intro pins s σ H v u Q I r h;rw[ha];refine ai (dU (thn (ho pins s σ H _ I h) fun Z V ⟨x,H1,D,r1,J⟩=>?_));refine ai (dU (thn (hi pins V σ H1 _ D J) fun Y s2 ⟨y,H2,U,r2,z⟩=>?_));refine ai (Ep (ai (dU (thn (hs pins s2 σ H2 x y v Z Y u _ U r1 r2 r z) fun _ s3 ⟨O,I3,g⟩=>?_))));exact wpAny_release ⟨σ,O,I3,g⟩
def Jx(te:TE)(g:TG):TS:=fun D σ H=>te σ H fun x H1=>g x σ H1 D.nx
theorem ug{tg e:cU}{te:TE}{g:TG}(Y:PE X e te)(U:PG X tg g)(hs:swapsWithSole [tg] e pos.line X.env=pure false:=by rfl)(hw:swappedStores [tg] e X.env=pure none:=by rfl)
  (h1:(lG [tg] X.env).map (·.2)=[yK tg X.env]:=by rfl):PS X (.Assign [tg] e pos) (Jx te g):=by
 intro pins s σ H D I h;refine wpAny_Assign_stores (thn (Y pins s σ H _ I h) fun v Z ⟨x,H1,W,r1,V⟩=>?_) hs hw;rw[h1];exact thn (U pins Z σ H1 x v _ W r1 V) fun _ s2 q=>q
theorem bJ{i:Nat}{x:Str}{e:cU}{te:TE}{pos':Pos}(U:X.N.Nodup)(hi:X.N[i]?=some x)(hx:Loc X.env.scope x)(Y:PE X e te)(hs:uR e (some (.Name x pos')) pos.line X.env=pure false:=by rfl)(V:X.fn x=true\/X.env.scope.names.lookup x=some .local:=by first|exact .inl rfl|exact .inr rfl|assumption) :
  PS X (.Assign [.Name x pos'] e pos) (Jx te (Cj i)):=by
 intro pins s σ H D I h;refine wpAny_Assign_Name (thn (Y pins s σ H _ I h) fun v J ⟨y,H1,W,r1,O⟩=>?_) hs;exact s9 W U hi hx r1 (fun s2 Z=>{_,H1,Z,O}) V
end
section
variable{X:Cx}{pos:Pos}
def FC(c:TT)(tb:TS):TS:=fun D σ H=>∃W:Nat->St->Hp->Prop,(∃m,W m σ H)/\∀m σ H,W m σ H ->
 c σ H fun b H1=>if b=true then ∃N:St->Hp->Prop,(∀Z H',N Z H'->∃Y,Y<m/\W Y Z H')/\tb {D with nx:=N,ct:=N,bk:=D.nx} σ H1 else D.nx σ H1
theorem wx{c:cU}{V:List cX}{tc:TT}{tb:TS}(hp:PassesOwn (bA X.prog X.w) X.A X.env X.xe)(hc:PT X c tc)(hb:PSs X V tb):PS X (.While c V [] pos) (FC tc tb):=by
 intro pins s σ H D I h;obtain⟨W,⟨m0,w0⟩,turn⟩:=h;refine wpAny_While (codeAny_whileLoop (fun n s'=>∃O H',Inv X pins O H' s'/\W n O H') ?_ m0 ⟨σ,H,I,w0⟩);rintro n s1 ⟨Y,H1,I1,w1⟩;refine iN hp (thn (hc pins s1 Y H1 _ I1 (turn n Y H1 w1)) fun b s2 ⟨H2,I2,J⟩=>?_)
 cases b with
 |true=>
  obtain⟨N,hN,J⟩:=J;rw[if_pos rfl];refine iN hp (thn (hb pins s2 Y H2 _ I2 J) fun f s3 z=>?_)
  cases f with
  |next=>
   obtain⟨Z,U,I3,n3⟩:=z;obtain⟨m',hm,g⟩:=hN Z U n3;exact⟨m',hm,Z,U,I3,g⟩
  |cont=>
   obtain⟨Z,U,I3,n3⟩:=z;obtain⟨m',hm,g⟩:=hN Z U n3;exact⟨m',hm,Z,U,I3,g⟩
  |brk=>exact z
  |ret v=>exact z
 |false=>
  rw[if_neg aY];exact nA ⟨Y,H2,I2,J⟩
end
structure It where
 go:Nat->Hp->Prop
 yld:Nat->Hp->V->Hp->Prop
 stop:Nat->Hp->Prop
def yN(X:Cx)(pins:List (aa×Obj))(H:Hp)(b:aa):Prop:=
 H b=none/\b≠X.env.locals/\b∉X.fs/\(b∈X.ex\/X.s₀.heap.objs.size<=b)/\(∀x c,X.env.cells.lookup x=some c->c≠b)/\∀p∈X.pn++pins,p.1≠b
theorem Inv.fpOk{X:Cx}{pins:List (aa×Obj)}{σ:St}{H H':Hp}{s:ao}{b:aa}(I:Inv X pins σ H s)(hb:s.heap.objs.size<=b)(Z:H' b=none):yN X pins H' b:=by
 refine{Z,qg (bM I.lt hb),I.nofs hb,.inr (dB I.sz hb),fun x c e z=>?_,fun p hp z=>?_}
 ·obtain⟨v,q⟩:=I.cell x c e;exact absurd (bM q.lt (by rw[z];exact hb)) (hW _)
 ·exact absurd (bM (aP (I.pin p hp).1) (by rw[z];exact hb)) (hW _)
structure Er(P:aM)(w:bO)(K:af)(tg:cU)(J:It)(fp:List aa)(it:aa)(tn:Nat->cC->Prop):Prop where
 mem:it∈fp
 obj:∀i h,tn i h->∀b∈fp,∃o,h.get? b=some o/\∀v,o.data≠.cell v
 keep:∀i h h',tn i h->(∀b∈fp,∀o,h.get? b=some o->h'.get? b=some o)->tn i h'
 item:∀(X:Cx),X.prog=P->X.w=w->X.K=K->X.calm=true->∀(i:Nat) (pins:List (aa×Obj)) (s:ao) (σ:St) (H:Hp) (E:ae->ao->Prop),Inv X pins σ H s->(∀b∈fp,yN X pins H b)->tn i s.heap->J.go i H ->
  aX (bA P w) X.A (pyNext (.ref it)) (fun r s1=>∃u,r=some u /\
   aX (bA P w) X.A (sW tg (.ref it) u) (fun _ s2=>∃x H',Inv X pins σ H' s2/\RelV x u/\J.yld i H x H'/\tn (i+1) s2.heap/\∀b∈fp,H' b=none) E s1) E s
 done:∀(X:Cx),X.prog=P->X.w=w->X.K=K->X.calm=true->∀(i:Nat) (pins:List (aa×Obj)) (s:ao) (σ:St) (H:Hp) (E:ae->ao->Prop),Inv X pins σ H s->(∀b∈fp,yN X pins H b)->tn i s.heap->J.stop i H ->
  aX (bA P w) X.A (pyNext (.ref it)) (fun r s1=>r=none/\Inv X pins σ H s1) E s
 self:∀(A:cj) (i:Nat) (s:ao) (Q:ae->ao->Prop) (E:ae->ao->Prop),tn i s.heap->Q (.ref it) s->aX (bA P w) A (pyIter (.ref it)) Q E s
abbrev TI:=St->Hp->(It->Hp->Prop)->Prop
def PIE(X:Cx)(pins:List (aa×Obj))(σ:St)(tg:cU)(R:It->Hp->Prop)(Z:ae)(s2:ao):Prop:=
 ∃(it:aa) (fp:List aa) (Y:Nat->cC->Prop) (J:It) (H':Hp),Z=.ref it/\Inv X pins σ H' s2/\Er X.prog X.w X.K tg J fp it Y/\Y 0 s2.heap/\(∀b∈fp,yN X pins H' b)/\R J H'
def PI(X:Cx)(tg Z:cU)(W:TI):Prop:=
 ∀(pins:List (aa×Obj)) (s:ao) (σ:St) (H:Hp) (R:It->Hp->Prop),Inv X pins σ H s->W σ H R ->
  aX (bA X.prog X.w) X.A (gf Z X.env) (fun v Y=>aX (bA X.prog X.w) X.A (pyIter v) (PIE X pins σ tg R) X.xe Y) X.xe s
theorem FD{M:Ju}{A:cj}{E:ae->ao->Prop}{s:ao}{tg:cU}{it:aa}{u:ae}{o:Obj}{n:String}{vs:Array ae}{Q:Unit->ao->Prop}(ho:s.heap.get? it=some o)(hc:o.cls=.type n)(hd:o.data=.fields vs)
  (Y:["enumerate","zip","dict_itemiterator","dict_reverseitemiterator","odict_iterator","itertools.zip_longest","itertools.pairwise"].contains n=false) (Z:Q () s):aX M A (sW tg (.ref it) u) Q E s:=by
 unfold sW
 cases tg<;>first
  |exact aO Z
  |(cases u<;>first
    |exact aO Z
    |(refine ai (wpAny_load ho ?_)
      rw[hc,hd];show aX M A (if (["enumerate","zip","dict_itemiterator","dict_reverseitemiterator","odict_iterator","itertools.zip_longest","itertools.pairwise"].contains n&&vs[0]?==some (uh _))=true then _ else _) Q E s;rw[if_neg (by intro h;rw[Y,Bool.false_and]at h;cases h)];exact aO Z))
def Itl(K:af)(a:aa):It:=
 ⟨fun i H=>∃xs x,SqL K H a xs/\xs[i]?=some x,fun i H x H'=>H'=H/\∀xs,SqL K H a xs->xs[i]?=some x,fun i H=>∃xs,SqL K H a xs/\xs.length<=i⟩
def Itt(K:af)(a:aa):It:=
 ⟨fun i H=>∃xs x,SqT K H a xs/\xs[i]?=some x,fun i H x H'=>H'=H/\∀xs,SqT K H a xs->xs[i]?=some x,fun i H=>∃xs,SqT K H a xs/\xs.length<=i⟩
def Itr(lo:Int)(n:Nat):It:=⟨fun i _=>i<n,fun i H x H'=>H'=H/\x=.int (lo+i),fun i _=>n<=i⟩
theorem Es{P:aM}{w:bO}{K:af}{tg:cU}(a it:aa):Er P w K tg (Itl K a) [it] it (fun i h=>h.IsListIter it a i) where
 mem:=by simp
 obj:=fun i h st b hb=>by
  have e:b=it:=by simpa using hb
  subst e;obtain⟨o,e,c,d⟩:=st;exact{o,e,fun v z=>by rw[d]at z;cases z}
 keep:=fun i h h' st k=>st.at fun o e=>k it (by simp) o e
 item:=by
  intro X V hw O hc i pins s σ H E I Y st J;subst V hw O;obtain⟨xs,x,hq,hx⟩:=J;obtain⟨U,rv,p,hz⟩:=I.list hq;obtain⟨u,hu,ru⟩:=rv.get hx;obtain⟨W,f1,f2,g,D,f5⟩:=Y it (by simp);refine FE st p.isList (x:=u) (by simpa using hu) fun h' Z sb=>?_;have I1:Inv X pins σ H {s with heap:=h'}:=I.turned (t':=s.toks) (fun b o hb e=>(sb.2 b hb).trans e) W f1 g D f5;obtain⟨o,e,c,d⟩:=id Z;exact{u,rfl,FD (s:={s with heap:=h'}) e c d (by decide) {x,H,I1,ru,{rfl,fun ys hy=>by rw[I.list_inj hy hq];exact hx},Z,fun b hb=>(Y b hb).1}}
 done:=by
  intro X V hw O hc i pins s σ H E I Y st J;subst V hw O;obtain⟨xs,hq,hx⟩:=J;obtain⟨U,rv,p,hz⟩:=I.list hq;obtain⟨W,f1,f2,g,D,f5⟩:=Y it (by simp);have hl:=rv.length;exact Jj (I.ok.hd hc) st p.isList (by simp;omega) fun h' eb=>{rfl,I.turned (t':=s.toks) (fun b o hb e=>eb b o hb e) W f1 g D f5}
 self:=fun _ _ _ _ _ st h=>wpAny_pyIter_listiter st h
theorem Bc{P:aM}{w:bO}{K:af}{tg:cU}(a it:aa):Er P w K tg (Itt K a) [it] it (fun i h=>h.IsTupleIter it a i) where
 mem:=by simp
 obj:=fun i h st b hb=>by
  have e:b=it:=by simpa using hb
  subst e;obtain⟨o,e,c,d⟩:=st;exact{o,e,fun v z=>by rw[d]at z;cases z}
 keep:=fun i h h' st k=>st.at fun o e=>k it (by simp) o e
 item:=by
  intro X U hw O hc i pins s σ H E I W st J;subst U hw O;obtain⟨xs,x,hq,hx⟩:=J;obtain⟨Z,rv,p,hz⟩:=I.tuple hq;obtain⟨u,hu,ru⟩:=rv.get hx;obtain⟨V,f1,f2,g,D,f5⟩:=W it (by simp);refine wpAny_pyNext_tuple_item st (show s.heap.IsTuple a Z.toArray from p) (x:=u) (by simpa using hu) fun h' Y sb=>?_;have I1:Inv X pins σ H {s with heap:=h'}:=I.turned (t':=s.toks) (fun b o hb e=>(sb.2 b hb).trans e) V f1 g D f5;obtain⟨o,e,c,d⟩:=id Y;exact{u,rfl,FD (s:={s with heap:=h'}) e c d (by decide) {x,H,I1,ru,{rfl,fun ys hy=>by rw[I.tuple_inj hy hq];exact hx},Y,fun b hb=>(W b hb).1}}
 done:=by
  intro X U hw O hc i pins s σ H E I W st J;subst U hw O;obtain⟨xs,hq,hx⟩:=J;obtain⟨Z,rv,p,hz⟩:=I.tuple hq;obtain⟨V,f1,f2,g,D,f5⟩:=W it (by simp);have hl:=rv.length;exact wpAny_pyNext_tuple_end (I.ok.hd hc) st (show s.heap.IsTuple a Z.toArray from p) (by simp;omega) fun h' eb=>{rfl,I.turned (t':=s.toks) (fun b o hb e=>eb b o hb e) V f1 g D f5}
 self:=fun _ _ _ _ _ st h=>wpAny_pyIter_tupleiter st h
theorem Bd{P:aM}{w:bO}{K:af}{tg:cU}(it:aa)(lo:Int)(n:Nat):Er P w K tg (Itr lo n) [it] it (fun i h=>IsRangeIter h it (lo+(i:Nat)*1) ((n:Int)-(i:Nat)) 1) where
 mem:=by simp
 obj:=fun i h st b hb=>by
  have e:b=it:=by simpa using hb
  subst e;exact⟨_,st,fun v z=>by
   have z':Data.fields _=Data.cell v:=z
   cases z'⟩
 keep:=fun i h h' st k=>k it (by simp) _ st
 item:=by
  intro X U hw J hc i pins s σ H E I Y st O;subst U hw J;obtain⟨V,f1,f2,g,D,f5⟩:=Y it (by simp);have W:=Walks.range (prog:=X.prog) (w:=X.w) (I.ok.hd hc) it lo 1 n;refine W.item i s _ _ O st fun v h' tk hv Z kk=>?_;obtain⟨t,rfl⟩:=hv;have I1:Inv X pins σ H {s with heap:=h',toks:=tk}:=I.turned (fun b o hb e=>kk b o (by simpa using hb) e) V f1 g D f5;refine{_,rfl,FD (s:={s with heap:=h',toks:=tk}) (n:="range_iterator") Z rfl rfl (by decide) {.int (lo+i),H,I1,{t,?_},⟨rfl,rfl⟩,Z,fun b hb=>(Y b hb).1}};rw[Int.mul_one]
 done:=by
  intro X U hw J hc i pins s σ H E I Y st O;subst U hw J;obtain⟨V,f1,f2,g,D,f5⟩:=Y it (by simp);exact wpAny_pyNext_range_end (I.ok.hd hc) st (by have:n<=i:=O;omega) fun h' eb=>{rfl,I.turned (t':=s.toks) (fun b o hb e=>eb b o hb e) V f1 g D f5}
 self:=fun _ _ _ _ _ st h=>wpAny_pyIter_rangeiter st h
section
variable{X:Cx}{tg:cU}
def Lo(K:af)(tl:TE):TI:=fun σ H R=>tl σ H fun x H1=>∃a,x=.ref a/\(∃xs,SqL K H1 a xs)/\R (Itl K a) H1
def iTup(K:af)(tl:TE):TI:=fun σ H R=>tl σ H fun x H1=>∃a,x=.ref a/\(∃xs,SqT K H1 a xs)/\R (Itt K a) H1
theorem jB{l:cU}{tl:TE}(hl:PE X l tl):PI X tg l (Lo X.K tl):=by
 intro pins s σ H R I h;refine thn (hl pins s σ H _ I h) fun v Z ⟨x,H1,Y,r1,V⟩=>?_;obtain⟨a,e,⟨xs,hq⟩,q⟩:=V;subst e
 cases r1;obtain⟨W,rv,p,U⟩:=Y.list hq;refine OV p.isList ?_;refine{Z.heap.objs.size,[Z.heap.objs.size],_,_,H1,rfl,Y.kept (t':=Z.toks) fun b o e=>aJ _ e,Es a _,{_,cz _ rfl,rfl,rfl},fun b hb=>?_,q};have e:b=Z.heap.objs.size:=by simpa using hb
 subst e;exact Y.fpOk (ax _) (Y.hok.fresh (ax _))
theorem Nc{l:cU}{tl:TE}(hl:PE X l tl):PI X tg l (iTup X.K tl):=by
 intro pins s σ H R I h;refine thn (hl pins s σ H _ I h) fun v Z ⟨x,H1,Y,r1,V⟩=>?_;obtain⟨a,e,⟨xs,hq⟩,q⟩:=V;subst e
 cases r1;obtain⟨W,rv,p,U⟩:=Y.tuple hq;refine wpAny_pyIter_tuple (show Z.heap.IsTuple a W.toArray from p) ?_;refine{Z.heap.objs.size,[Z.heap.objs.size],_,_,H1,rfl,Y.kept (t':=Z.toks) fun b o e=>aJ _ e,Bc a _,{_,cz _ rfl,rfl,rfl},fun b hb=>?_,q};have e:b=Z.heap.objs.size:=by simpa using hb
 subst e;exact Y.fpOk (ax _) (Y.hok.fresh (ax _))
theorem FF{pins:List (aa×Obj)}{σ:St}{H:Hp}{s:ao}{R:It->Hp->Prop}{E:ae->ao->Prop}{lo hi:Int}{t u v:Tok}{tk:Nat}(I:Inv X pins σ H s)(h1:-(2^62)<=lo)(h2:lo<2^62)(W:-(2^62)<=hi)(V:hi<2^62)
  (q:R (Itr lo (hi-lo).toNat) H):aX (bA X.prog X.w) X.A (pyIter (.ref s.heap.objs.size)) (PIE X pins σ tg R) E {s with heap:=s.heap.push {cls:=.type "range",data:=.fields #[.int lo t,.int hi u,.int 1 v]},toks:=tk}:=by
 refine wpAny_pyIter_range (IsRange.new ..) (small_one h1 h2 W V) ?_;have Z:Inv X pins σ H {s with heap:=s.heap.push {cls:=.type "range",data:=.fields #[.int lo t,.int hi u,.int 1 v]},toks:=tk}:=I.kept fun b o e=>aJ _ e;refine⟨(s.heap.push {cls:=.type "range",data:=.fields #[.int lo t,.int hi u,.int 1 v]}).objs.size,[(s.heap.push {cls:=.type "range",data:=.fields #[.int lo t,.int hi u,.int 1 v]}).objs.size],_,_,H,rfl,
  Z.kept (t':=tk) fun b o e=>aJ _ e,Bd _ lo (hi-lo).toNat,?_,fun b hb=>?_,q⟩
 ·have e1:lo+((0:Nat):Int)*1=lo:=by simp
  have Y:(((hi-lo).toNat:Nat):Int)-((0:Nat):Int)=Builtin.Range.rangeSize lo hi 1:=by rw[rangeSize_one];split<;>omega
  show IsRangeIter _ _ (lo+((0:Nat):Int)*1) ((((hi-lo).toNat:Nat):Int)-((0:Nat):Int)) 1;rw[e1,Y];exact cz _ rfl
 ·have e:b=(s.heap.push {cls:=.type "range",data:=.fields #[.int lo t,.int hi u,.int 1 v]}).objs.size:=by simpa using hb
  subst e;exact Z.fpOk (ax _) (Z.hok.fresh (ax _))
def FG(ta:TA):TI:=fun σ H R=>ta σ H fun vs H1=>∃j:Int,vs=[.int j]/\-(2^62)<=j/\j<2^62/\R (Itr 0 j.toNat) H1
theorem jr{a:cU}{ta:TA}{p pos:Pos}(U:Gl X "range")(hm:X.mg "range"=none)(ha:PA X [a] ta)(hs:cK [a] X.env=[(false,gf a X.env)]:=by rfl):PI X tg (.Call (.Name "range" p) [a] [] pos) (FG ta):=by
 intro pins s σ H R I h;refine Call_ (uf I U hm boot_range (j7 (thn (ha pos pins s σ H _ I h) fun us O ⟨vs,H1,W,r1,Z⟩=>?_) hs rfl));obtain⟨j,e,Z,V,q⟩:=Z;subst e
 cases r1 with
 |cons r Y=>
  cases Y;obtain⟨t,rfl⟩:=r;exact call_range_1 (FF W (by omega) (by omega) Z V (by simpa using q))
def tFor(U:TI)(g:TG)(tb:TS):TS:=fun D σ H=>U σ H fun J H1=>∃W:Nat->Nat->St->Hp->Prop,(∃m,W 0 m σ H1)/\∀i m σ H,W i m σ H ->
 (J.stop i H/\D.nx σ H)\/(J.go i H/\∃N:St->Hp->Prop,(∀Z H',N Z H'->∃V,V<m/\W (i+1) V Z H')/\∀x H',J.yld i H x H'->g x σ H' fun Y H2=>tb {D with nx:=N,ct:=N,bk:=D.nx} Y H2)
def uj(fp:List aa)(h:cC):List (aa×Obj):=fp.filterMap fun b=>(h.get? b).map fun o=>(b,o)
theorem oV{fp:List aa}{h:cC}{b:aa}{o:Obj}(hb:b∈fp)(e:h.get? b=some o):(b,o)∈uj fp h:=tZ.mpr {b,hb,by rw[e];rfl}
theorem Et{fp:List aa}{h:cC}{p:aa×Obj}(hp:p∈uj fp h):p.1∈fp/\h.get? p.1=some p.2:=by
 obtain⟨b,hb,e⟩:=tZ.mp hp
 cases q:h.get? b with
 |none=>rw[q]at e;cases e
 |some o=>
  rw[q]at e;have Z:(b,o)=p:=dP e;subst Z;exact⟨hb,q⟩
theorem Inv.pinned{pins:List (aa×Obj)}{σ:St}{H:Hp}{s:ao}{fp:List aa}(I:Inv X pins σ H s)(V:∀b∈fp,yN X pins H b)(ho:∀b∈fp,∃o,s.heap.get? b=some o/\∀v,o.data≠.cell v):Inv X (pins++uj fp s.heap) σ H s:=
 I.pins_of fun p hp=>(bZ.mp hp).elim (fun z=>I.pin p (bj _ z)) fun z=>by
  obtain⟨hb,e⟩:=Et z;obtain⟨Y,f1,W,_⟩:=V p.1 hb;obtain⟨o,Z,d⟩:=ho p.1 hb;rw[e]at Z;cases Z;exact⟨e,Y,f1,W,d⟩
theorem Inv.unpinned{pins pl:List (aa×Obj)}{σ:St}{H:Hp}{s:ao}(I:Inv X (pins++pl) σ H s):Inv X pins σ H s:=I.pins_of fun p hp=>I.pin p (bj _ (gZ _ hp))
theorem jX{Y:cU}{ed:List cX}{wi:TI}{g:TG}{tb:TS}{pos:Pos}(hp:PassesOwn (bA X.prog X.w) X.A X.env X.xe)(hc:X.calm=true)(hi:PI X tg Y wi)(hg:PG X tg g)(hb:PSs X ed tb)
  (hs:∀x,p7 Y X.env x=pure x:=by intro _;rfl):PS X (.For tg Y ed [] pos) (tFor wi g tb):=by
 intro pins s σ H D I h;refine wpAny_For (thn (hi pins s σ H _ I h) fun v s1 h1=>thn h1 fun dv s2 h2=>?_) hs;obtain⟨it,fp,tn,J,H2,e,I2,T,dL,f2,W,⟨m0,w0⟩,turn⟩:=h2;subst e
 -- what stays true of the iterator's objects through the loop
 have O:∀{H':Hp},(∀b∈fp,H' b=none)->∀b∈fp,yN X pins H' b:=fun hn b hb=>{hn b hb,(f2 b hb).2};refine codeAny_forLoop_any (fun n s'=>∃i z H',Inv X pins z H' s'/\tn i s'.heap/\(∀b∈fp,H' b=none)/\W i n z H') ?_ m0 {0,σ,H2,I2,dL,fun b hb=>(f2 b hb).1,w0};rintro n s3 ⟨i,U,H3,I3,eb,ea,w3⟩
 rcases turn i n U H3 w3 with⟨stop,qn⟩|⟨go,N,hN,step⟩
 ·refine iN hp (thn (T.done X rfl rfl rfl hc i pins s3 U H3 X.xe I3 (O ea) eb stop) fun r s4 ⟨hr,I4⟩=>?_);subst hr;exact nA ⟨U,H3,I4,qn⟩
 ·refine iN hp (thn (T.item X rfl rfl rfl hc i pins s3 U H3 X.xe I3 (O ea) eb go) fun r s4 ⟨u,hr,h4⟩=>?_);subst hr;refine iN hp (thn h4 fun _ s5 ⟨x,H5,I5,r5,y5,ec,dG⟩=>?_);have dV:=I5.pinned (O dG) (T.obj _ _ ec);refine iN hp (thn (hg _ s5 U H5 x u _ dV r5 (step x H5 y5)) fun _ s6 ⟨dz,H6,I6,q6⟩=>?_);refine iN hp (thn (hb _ s6 dz H6 _ I6 q6) fun f s7 q7=>?_);have again:∀{Z:St} {H7:Hp},Inv X (pins++uj fp s5.heap) Z H7 s7->N Z H7->∃m,m<n/\∃i z H',Inv X pins z H' s7/\tn i s7.heap/\(∀b∈fp,H' b=none)/\W i m z H':=fun {Z H7} V n7=>by
   obtain⟨m',hm,w7⟩:=hN Z H7 n7;refine{m',hm,i+1,Z,H7,V.unpinned,T.keep _ _ _ ec fun b hb o e=>(V.pin (b,o) (bj _ (bj _ (oV hb e)))).1,fun b hb=>?_,w7};obtain⟨o,e,d⟩:=T.obj _ _ ec b hb;exact (V.pin (b,o) (bj _ (bj _ (oV hb e)))).2.1
  cases f with
  |next=>obtain⟨Z,H7,V,n7⟩:=q7;exact again V n7
  |cont=>obtain⟨Z,H7,V,n7⟩:=q7;exact again V n7
  |brk=>obtain⟨Z,H7,V,q7⟩:=q7;exact⟨Z,H7,V.unpinned,q7⟩
  |ret v=>obtain⟨x7,Z,H7,V,r7,q7⟩:=q7;exact⟨x7,Z,H7,V.unpinned,r7,q7⟩
end
theorem ko{K:af}{a:aa}{xs:List V}{g:TG}{tb:TS}{D:nv}{σ:St}{H:Hp}(Z:Nat->St->Hp->Prop)(h0:Z 0 σ H)(hl:∀i σ H,i<=xs.length->Z i σ H->SqL K H a xs)
  (hs:∀i x σ H,xs[i]?=some x->Z i σ H->g x σ H fun Y H2=>tb {D with nx:=Z (i+1),ct:=Z (i+1),bk:=D.nx} Y H2) (hd:∀σ H,Z xs.length σ H->D.nx σ H) :
  ∃W:Nat->Nat->St->Hp->Prop,(∃m,W 0 m σ H)/\∀i m σ H,W i m σ H ->
   ((Itl K a).stop i H/\D.nx σ H)\/((Itl K a).go i H/\∃N:St->Hp->Prop,(∀U H',N U H'->∃J,J<m/\W (i+1) J U H')/\∀x H',(Itl K a).yld i H x H'->g x σ H' fun Y H2=>tb {D with nx:=N,ct:=N,bk:=D.nx} Y H2):=by
 refine{fun i m σ H=>m=xs.length-i/\i<=xs.length/\Z i σ H,{xs.length,by simp,cm _,h0},?_};rintro i m σ H ⟨rfl,hi,p⟩;have q:=hl i σ H hi p
 by_cases O:i<xs.length
 ·refine .inr {{xs,xs[i],q,by simp[O]},Z (i+1),fun U H' I=>{xs.length-(i+1),by omega,rfl,O,I},fun x H' y=>?_};obtain⟨e,y⟩:=y;subst e;exact hs i x σ _ (y xs q) p
 ·have e:i=xs.length:=by omega
  subst e;exact .inl {{xs,q,ax _},hd σ H p}
theorem qZ{lo:Int}{n:Nat}{g:TG}{tb:TS}{D:nv}{σ:St}{H:Hp}(U:Nat->St->Hp->Prop)(h0:U 0 σ H)
  (hs:∀i σ H,i<n->U i σ H->g (.int (lo+i)) σ H fun Y H2=>tb {D with nx:=U (i+1),ct:=U (i+1),bk:=D.nx} Y H2) (hd:∀σ H,U n σ H->D.nx σ H) :
  ∃W:Nat->Nat->St->Hp->Prop,(∃m,W 0 m σ H)/\∀i m σ H,W i m σ H ->
   ((Itr lo n).stop i H/\D.nx σ H)\/((Itr lo n).go i H/\∃N:St->Hp->Prop,(∀V H',N V H'->∃O,O<m/\W (i+1) O V H')/\∀x H',(Itr lo n).yld i H x H'->g x σ H' fun Y H2=>tb {D with nx:=N,ct:=N,bk:=D.nx} Y H2):=by
 refine{fun i m σ H=>m=n-i/\i<=n/\U i σ H,{n,by simp,cm _,h0},?_};rintro i m σ H ⟨rfl,hi,p⟩
 by_cases Z:i<n
 ·refine .inr {Z,U (i+1),fun V H' J=>{n-(i+1),by omega,rfl,Z,J},fun x H' y=>?_};obtain⟨e,y⟩:=y;subst e y;exact hs i σ _ Z p
 ·have e:i=n:=by omega
  subst e;exact .inl {ax _,hd σ H p}
theorem z8{c:TT}{tb:TS}{D:nv}{σ:St}{H:Hp}(Y:St->Hp->Prop)(μ:St->Hp->Nat)(h0:Y σ H)
  (hs:∀σ H,Y σ H->c σ H fun b H1=>if b=true then tb {D with nx:=fun Z H'=>Y Z H'/\μ Z H'<μ σ H,ct:=fun Z H'=>Y Z H'/\μ Z H'<μ σ H,bk:=D.nx} σ H1 else D.nx σ H1)
  (mono:∀σ H Q W,(∀b H1,Q b H1->W b H1)->c σ H Q->c σ H W):FC c tb D σ H:=by
 refine{fun m σ H=>m=μ σ H/\Y σ H,{_,rfl,h0},?_};rintro m σ H ⟨rfl,p⟩;refine mono σ H _ _ (fun b H1 q=>?_) (hs σ H p)
 cases b with
 |true=>exact{_,fun Z H' ⟨V,l⟩=>{_,l,rfl,V},q}
 |false=>exact q
abbrev R2:=V->V->Hp->VK->Prop
def OpR(X:Cx)(f:ae->ae->Sem ae)(r:R2):Prop:=
 ∀(pins:List (aa×Obj)) (s:ao) (σ:St) (H:Hp) (x y:V) (v u:ae) (Q:VK),Inv X pins σ H s->RelV x v->RelV y u->r x y H Q ->
  aX (bA X.prog X.w) X.A (f v u) (EP X pins σ Q) X.xe s
def UnR(X:Cx)(f:ae->Sem ae)(r:V->Hp->VK->Prop):Prop:=
 ∀(pins:List (aa×Obj)) (s:ao) (σ:St) (H:Hp) (x:V) (v:ae) (Q:VK),Inv X pins σ H s->RelV x v->r x H Q ->
  aX (bA X.prog X.w) X.A (f v) (EP X pins σ Q) X.xe s
def jT(X:Cx)(f:ae)(r:List V->Hp->VK->Prop):Prop:=
 ∀(pins:List (aa×Obj)) (s:ao) (σ:St) (H:Hp) (xs:List V) (us:List ae) (Q:VK),Inv X pins σ H s->c9 xs us->r xs H Q ->
  aX (bA X.prog X.w) X.A (xw f us) (EP X pins σ Q) X.xe s
def TruR(X:Cx)(r:V->Hp->(Bool->Hp->Prop)->Prop):Prop:=
 ∀(pins:List (aa×Obj)) (s:ao) (σ:St) (H:Hp) (x:V) (v:ae) (Q:Bool->Hp->Prop),Inv X pins σ H s->RelV x v->r x H Q ->
  aX (bA X.prog X.w) X.A (truthy v) (TP X pins σ Q) X.xe s
def tOp(r:R2)(ta tb:TE):TE:=fun σ H Q=>ta σ H fun x H1=>tb σ H1 fun y H2=>r x y H2 Q
def tUn(r:V->Hp->VK->Prop)(ta:TE):TE:=fun σ H Q=>ta σ H fun x H1=>r x H1 Q
inductive RI(C:Int->Int->Prop)(g:Int->Int->V)(x y:V)(H:Hp)(Q:VK):Prop where
 |mk(i j:Int)(hx:x=.int i)(hy:y=.int j)(c:C i j)(q:Q (g i j) H):RI C g x y H Q
def rI(C:Int->Int->Prop)(g:Int->Int->V):R2:=fun x y H Q=>RI C g x y H Q
inductive RI0(g:Int->Int->V)(x y:V)(H:Hp)(Q:VK):Prop where
 |mk(i j:Int)(hx:x=.int i)(hy:y=.int j)(q:Q (g i j) H):RI0 g x y H Q
def rI0(g:Int->Int->V):R2:=fun x y H Q=>RI0 g x y H Q
inductive RU(g:Int->V)(x:V)(H:Hp)(Q:VK):Prop where
 |mk(i:Int)(hx:x=.int i)(q:Q (g i) H):RU g x H Q
def rU(g:Int->V):V->Hp->VK->Prop:=fun x H Q=>RU g x H Q
section
variable{X:Cx}{a b c:cU}{ta tb tc:TE}{pos:Pos}
theorem Nd(ha:PE X a ta)(hb:PE X b tb){pins:List (aa×Obj)}{s:ao}{σ:St}{H:Hp}{R:V->V->Hp->Prop}(I:Inv X pins σ H s)
  (h:ta σ H fun x H1=>tb σ H1 fun y H2=>R x y H2) {Q:ae->ao->Prop} {f:ae->ae->Sem ae}
  (J:∀v u s2 x y H2,Inv X pins σ H2 s2->RelV x v->RelV y u->R x y H2->aX (bA X.prog X.w) X.A (f v u) Q X.xe s2) :
  aX (bA X.prog X.w) X.A (gf a X.env) (fun v Z=>aX (bA X.prog X.w) X.A (gf b X.env) (fun u Y=>aX (bA X.prog X.w) X.A (f v u) Q X.xe Y) X.xe Z) X.xe s:=by
 refine thn (ha pins s σ H _ I h) fun v W ⟨x,H1,O,r1,z⟩=>?_;refine thn (hb pins W σ H1 _ O z) fun u s2 ⟨y,H2,U,r2,D⟩=>?_;exact J v u s2 x y H2 U r1 r2 D
theorem cR{op:Jy}{r:R2}(ho:OpR X (iy op) r)(ha:PE X a ta)(hb:PE X b tb):PE X (.BinOp a op b pos) (tOp r ta tb):=by
 intro pins s σ H Q I h;exact wpAny_BinOp (Nd ha hb I h fun v u s2 x y H2 W Y Z q=>ho pins s2 σ H2 x y v u Q W Y Z q)
theorem Ck{op:UnaryOp}{r:V->Hp->VK->Prop}(ho:UnR X (unaryOp op) r)(ha:PE X a ta):PE X (.UnaryOp op a pos) (tUn r ta):=by
 intro pins s σ H Q I h;exact UnaryOp_ (thn (ha pins s σ H _ I h) fun v Z ⟨x,H1,Y,r1,W⟩=>ho pins Z σ H1 x v Q Y r1 W)
theorem opI{f:ae->ae->Sem ae}{C:Int->Int->Prop}{g:Int->Int->Int}
  (Jz:∀(i j:Int) (t u:Tok) (s:ao) (Q:ae->ao->Prop) (E:ae->ao->Prop),C i j->Q (.int (g i j) s.toks) {s with toks:=s.toks+1}->aX (bA X.prog X.w) X.A (f (.int i t) (.int j u)) Q E s) :
  OpR X f (rI C fun i j=>.int (g i j)):=by
 intro pins s σ H x y v u Q I Y Z h;obtain⟨i,j,rfl,rfl,hc,q⟩:=h;obtain⟨t,rfl⟩:=Y;obtain⟨t',rfl⟩:=Z;exact Jz i j t t' s _ _ hc {.int (g i j),H,I.tok _,{_,rfl},q}
theorem opI0{f:ae->ae->Sem ae}{g:Int->Int->Int}
  (Jz:∀(i j:Int) (t u:Tok) (s:ao) (Q:ae->ao->Prop) (E:ae->ao->Prop),Q (.int (g i j) s.toks) {s with toks:=s.toks+1}->aX (bA X.prog X.w) X.A (f (.int i t) (.int j u)) Q E s) :
  OpR X f (rI0 fun i j=>.int (g i j)):=by
 intro pins s σ H x y v u Q I Y Z h;obtain⟨i,j,rfl,rfl,q⟩:=h;obtain⟨t,rfl⟩:=Y;obtain⟨t',rfl⟩:=Z;exact Jz i j t t' s _ _ {.int (g i j),H,I.tok _,{_,rfl},q}
theorem JA{f:ae->ae->Sem ae}{g:Int->Int->Bool}
  (Jz:∀(i j:Int) (t u:Tok) (s:ao) (Q:ae->ao->Prop) (E:ae->ao->Prop),Q (.bool (g i j)) s->aX (bA X.prog X.w) X.A (f (.int i t) (.int j u)) Q E s) :
  OpR X f (rI0 fun i j=>.bl (g i j)):=by
 intro pins s σ H x y v u Q I Y Z h;obtain⟨i,j,rfl,rfl,q⟩:=h;obtain⟨t,rfl⟩:=Y;obtain⟨t',rfl⟩:=Z;exact Jz i j t t' s _ _ {.bl (g i j),H,I,rfl,q}
def CDiv(i j:Int):Prop:=0<j/\j<1073741824
def Eu(i j:Int):Prop:=0<=j/\j<=1000000/\i.natAbs<2^64
def Nf(i j:Int):Prop:=(-(2^64)<i/\i<2^64)\/(-(2^64)<j/\j<2^64)
theorem Nf.ok{i j:Int}(h:Nf i j):IntMulOk i j:=by
 rcases h with⟨h1,h2⟩|⟨h1,h2⟩
 ·exact .of_left (intBits_le_64 h1 h2)
 ·exact .of_right (intBits_le_64 h1 h2)
theorem gK:OpR X (iy .Add) (rI0 fun i j=>.int (i+j)):=opI0 fun _ _ _ _ _ _ _ q=>add_int q
theorem jk:OpR X (iy .Sub) (rI0 fun i j=>.int (i-j)):=opI0 fun _ _ _ _ _ _ _ q=>sub_int q
theorem r9:OpR X (iy .Mult) (rI Nf fun i j=>.int (i*j)):=opI fun _ _ _ _ _ _ _ hc q=>mul_int q hc.ok
theorem JB:OpR X (iy .FloorDiv) (rI CDiv fun i j=>.int (i/j)):=opI fun i j _ _ _ _ _ hc q=>by
 have h1:(0:Int)<j:=hc.1;have h2:j<1073741824:=hc.2;exact FH (by omega) (by rw[yO i (by omega)];exact q) (.inl (PyProof.noPylong_small (by omega)))
theorem sj:OpR X (iy .Mod) (rI (fun _ j=>0<j) fun i j=>.int (i%j)):=opI fun i j _ _ _ _ _ hc q=>by
 have h1:(0:Int)<j:=hc;exact mod_int' (by omega) (by rw[Int.fmod_eq_emod_of_nonneg i (by omega)];exact q)
theorem JC:OpR X (iy .Mod) (rI (fun _ j=>j≠0) fun i j=>.int (i.fmod j)):=opI fun _ _ _ _ _ _ _ hc q=>mod_int' hc q
theorem sy:OpR X (iy .Pow) (rI Eu fun i j=>.int (i^j.toNat)):=opI fun _ _ _ _ _ _ _ hc q=>pow_int_small hc.1 hc.2.1 hc.2.2 q
theorem unI{f:ae->Sem ae}{g:Int->Int}
  (Jz:∀(i:Int) (t:Tok) (s:ao) (Q:ae->ao->Prop) (E:ae->ao->Prop),Q (.int (g i) s.toks) {s with toks:=s.toks+1}->aX (bA X.prog X.w) X.A (f (.int i t)) Q E s) :
  UnR X f (rU fun i=>.int (g i)):=by
 intro pins s σ H x v Q I Z h;obtain⟨i,rfl,q⟩:=h;obtain⟨t,rfl⟩:=Z;exact Jz i t s _ _ {.int (g i),H,I.tok _,{_,rfl},q}
theorem yP:UnR X (unaryOp .USub) (rU fun i=>.int (-i)):=unI fun _ _ _ _ _ q=>neg_int q
end
def scal:V->V->Bool
 |.non,.non=>true|.non,.int _=>true|.int _,.non=>true|.non,.bl _=>true|.bl _,.non=>true|.non,.str _=>true|.str _,.non=>true
 |.int _,.int _=>true|.bl _,.bl _=>true|.str _,.str _=>true|.byt _,.byt _=>true
 |.int _,.str _=>true|.str _,.int _=>true|.bl _,.str _=>true|.str _,.bl _=>true
 |_,_=>false
def rEq:R2:=fun x y H Q=>scal x y=true/\Q (.bl (decide (x=y))) H
def rNe:R2:=fun x y H Q=>scal x y=true/\Q (.bl (!decide (x=y))) H
theorem Cm{i j:Int}:decide (V.int i=V.int j)=(i==j):=by
 rw[qh];simp
theorem FJ{i j:Bool}:decide (V.bl i=V.bl j)=(i==j):=by
 rw[qh];simp
theorem Co{i j:Str}:decide (V.str i=V.str j)=(i==j):=by
 rw[qh];simp
theorem Cp{i j:Array UInt8}:decide (V.byt i=V.byt j)=(i.toList==j.toList):=by
 rw[qh]
 cases i
 cases j;simp
section
variable{X:Cx}{a b c:cU}{ta tb tc:TE}{pos:Pos}
theorem fb{pins:List (aa×Obj)}{σ:St}{H:Hp}{s:ao}{Q:VK}{k k':Bool}(I:Inv X pins σ H s)(q:Q (.bl k) H)(e:k=k'):EP X pins σ Q (.bool k') s:=by
 subst e;exact{.bl k,H,I,rfl,q}
theorem fc:OpR X (c5 .Eq) rEq:=by
 intro pins s σ H x y v u Q I Y Z h;obtain⟨hs,q⟩:=h
 cases x with
 |non=>
  cases Y
  cases y with
  |non=>cases Z;exact PySem.EqNone.eq_none_none (fb I q (by simp))
  |bl j=>cases Z;exact PySem.EqNone.eq_none_bool (fb I q (by simp))
  |int j=>obtain⟨t',rfl⟩:=Z;exact PySem.EqNone.eq_none_int (fb I q (by simp))
  |str j=>obtain⟨t',rfl⟩:=Z;exact PySem.EqNone.eq_none_str (fb I q (by simp))
  |_=>exact absurd (show false=true from hs) aY
 |bl i=>
  cases Y
  cases y with
  |non=>cases Z;exact PySem.EqNone.eq_bool_none (fb I q (by simp))
  |bl j=>cases Z;exact eq_bool (fb I q FJ)
  |str j=>obtain⟨t',rfl⟩:=Z;exact PySem.EqMixed.eq_bool_str (fb I q (by simp))
  |_=>exact absurd (show false=true from hs) aY
 |int i=>
  obtain⟨t,rfl⟩:=Y
  cases y with
  |non=>cases Z;exact PySem.EqNone.eq_int_none (fb I q (by simp))
  |int j=>obtain⟨t',rfl⟩:=Z;exact eq_int (fb I q Cm)
  |str j=>obtain⟨t',rfl⟩:=Z;exact PySem.EqMixed.eq_int_str (fb I q (by simp))
  |_=>exact absurd (show false=true from hs) aY
 |str i=>
  obtain⟨t,rfl⟩:=Y
  cases y with
  |non=>cases Z;exact PySem.EqNone.eq_str_none (fb I q (by simp))
  |bl j=>cases Z;exact PySem.EqMixed.eq_str_bool (fb I q (by simp))
  |int j=>obtain⟨t',rfl⟩:=Z;exact PySem.EqMixed.eq_str_int (fb I q (by simp))
  |str j=>obtain⟨t',rfl⟩:=Z;exact eq_str (fb I q Co)
  |_=>exact absurd (show false=true from hs) aY
 |byt i=>
  obtain⟨t,rfl⟩:=Y
  cases y with
  |byt j=>obtain⟨t',rfl⟩:=Z;exact PySem.W.eq_bytes (fb I q Cp)
  |_=>exact absurd (show false=true from hs) aY
 |_=>cases y<;>exact absurd (show false=true from hs) aY
theorem Cq:OpR X (c5 .NotEq) rNe:=by
 intro pins s σ H x y v u Q I Y Z h;obtain⟨hs,q⟩:=h
 cases x with
 |non=>
  cases Y
  cases y with
  |non=>cases Z;exact PySem.EqNone.ne_none_none (fb I q (by simp))
  |bl j=>cases Z;exact PySem.EqNone.ne_none_bool (fb I q (by simp))
  |int j=>obtain⟨t',rfl⟩:=Z;exact PySem.EqNone.ne_none_int (fb I q (by simp))
  |str j=>obtain⟨t',rfl⟩:=Z;exact PySem.EqNone.ne_none_str (fb I q (by simp))
  |_=>exact absurd (show false=true from hs) aY
 |bl i=>
  cases Y
  cases y with
  |non=>cases Z;exact PySem.EqNone.ne_bool_none (fb I q (by simp))
  |bl j=>cases Z;exact ne_bool (fb I q (congrArg not FJ))
  |str j=>obtain⟨t',rfl⟩:=Z;exact PySem.EqMixed.ne_bool_str (fb I q (by simp))
  |_=>exact absurd (show false=true from hs) aY
 |int i=>
  obtain⟨t,rfl⟩:=Y
  cases y with
  |non=>cases Z;exact PySem.EqNone.ne_int_none (fb I q (by simp))
  |int j=>obtain⟨t',rfl⟩:=Z;exact ne_int (fb I q (congrArg not Cm))
  |str j=>obtain⟨t',rfl⟩:=Z;exact PySem.EqMixed.ne_int_str (fb I q (by simp))
  |_=>exact absurd (show false=true from hs) aY
 |str i=>
  obtain⟨t,rfl⟩:=Y
  cases y with
  |non=>cases Z;exact PySem.EqNone.ne_str_none (fb I q (by simp))
  |bl j=>cases Z;exact PySem.EqMixed.ne_str_bool (fb I q (by simp))
  |int j=>obtain⟨t',rfl⟩:=Z;exact PySem.EqMixed.ne_str_int (fb I q (by simp))
  |str j=>obtain⟨t',rfl⟩:=Z;exact ne_str (fb I q (congrArg not Co))
  |_=>exact absurd (show false=true from hs) aY
 |byt i=>
  obtain⟨t,rfl⟩:=Y
  cases y with
  |byt j=>obtain⟨t',rfl⟩:=Z;exact PySem.W.ne_bytes (fb I q (congrArg not Cp))
  |_=>exact absurd (show false=true from hs) aY
 |_=>cases y<;>exact absurd (show false=true from hs) aY
theorem rN:OpR X (c5 .Lt) (rI0 fun i j=>.bl (decide (i<j))):=JA fun _ _ _ _ _ _ _ q=>lt_int q
theorem op_le:OpR X (c5 .LtE) (rI0 fun i j=>.bl (decide (i<=j))):=JA fun _ _ _ _ _ _ _ q=>le_int q
theorem uS:OpR X (c5 .Gt) (rI0 fun i j=>.bl (decide (j<i))):=JA fun _ _ _ _ _ _ _ q=>gt_int q
theorem op_ge:OpR X (c5 .GtE) (rI0 fun i j=>.bl (decide (j<=i))):=JA fun _ _ _ _ _ _ _ q=>ge_int q
theorem cq(b:cU){op:OT}(h:op≠.In:=by decide)(h2:op≠.NotIn:=by decide):jP op b=false:=by
 have e1:(op==CmpOp.In)=false:=by cases op<;>first|rfl|exact absurd rfl h
 have Z:(op==CmpOp.NotIn)=false:=by cases op<;>first|rfl|exact absurd rfl h2
 cases b<;>simp[jP,e1,Z]
theorem oW{op:OT}{r:R2}(ho:OpR X (c5 op) r)(ha:PE X a ta)(hb:PE X b tb)(hm:jP op b=false):PE X (.Compare a [op] [b] pos) (tOp r ta tb):=by
 intro pins s σ H Q I h;exact wpAny_Compare1 (Nd ha hb I h fun v u s2 x y H2 W Y Z q=>ho pins s2 σ H2 x y v u Q W Y Z q) hm
def tTest(t:TE):TT:=fun σ H Q=>t σ H fun x H'=>BlI x H' Q
theorem bQ{op:OT}{r:R2}(ho:OpR X (c5 op) r)(ha:PE X a ta)(hb:PE X b tb)(hm:jP op b=false):PT X (.Compare a [op] [b] pos) (tTest (tOp r ta tb)):=by
 intro pins s σ H Q I h;refine Ji (thn (ha pins s σ H _ I h) fun v Z ⟨x,H1,U,r1,V⟩=>thn (hb pins Z σ H1 _ U V) fun u s2 ⟨y,H2,Y,r2,O⟩=>
  thn (ho pins s2 σ H2 x y v u _ Y r1 r2 O) fun c g ⟨z,W,D,r3,k,e,J⟩=>?_) hm
 subst e
 cases r3;exact iZ ⟨W,D,J⟩
def TruV(K:af)(x:V)(H:Hp)(k:Bool):Prop:=
 match x with
 |.non=>k=false
 |.bl b=>k=b
 |.int i=>k=(i != 0)
 |.str y=>y.length<=aB/\k=((y.length:Int) != 0)
 |.byt y=>y.size<=aB/\k=((y.size:Int) != 0)
 |.ref p=>(∃xs,SqL K H p xs/\k=!xs.isEmpty)\/(∃xs,SqT K H p xs/\k=!xs.isEmpty)\/∃kvs,H p=some (.dK kvs)/\k=!kvs.isEmpty
 |_=>False
theorem Be{κ:Type}{kvs:List (κ×V)}{vs:List (κ×ae)}(r:KV kvs vs):(!vs.isEmpty)=!kvs.isEmpty:=by
 cases r<;>rfl
theorem wy{xs:List V}{Z:List ae}(r:c9 xs Z):(!Z.toArray.isEmpty)=!xs.isEmpty:=by
 cases r<;>simp
theorem uk:(aB:Nat)<2^63:=by rw[mw];decide
theorem Ng:TruR X (fun x H Q=>∃k,TruV X.K x H k/\Q k H):=by
 intro pins s σ H x v Q I V h;obtain⟨k,e,q⟩:=h;have hl:=uk;have hs:aB=16777216:=mw
 cases x with
 |non=>
  cases V;have Z:k=false:=e;subst Z;exact truthy_none ⟨H,I,q⟩
 |bl b=>
  cases V;have Z:k=b:=e;subst Z;exact iZ ⟨H,I,q⟩
 |int i=>
  obtain⟨t,rfl⟩:=V;have Z:k=(i != 0):=e;subst Z;exact PySem.P.truthy_int ⟨H,I,q⟩
 |str y=>
  obtain⟨t,rfl⟩:=V;obtain⟨hy,Z⟩:y.length<=aB/\k=((y.length:Int) != 0):=e;subst Z;exact PySem.P.truthy_str (by omega) {H,I.tok _,q}
 |byt y=>
  obtain⟨t,rfl⟩:=V;obtain⟨hy,Z⟩:y.size<=aB/\k=((y.size:Int) != 0):=e;subst Z;exact PySem.W.truthy_bytes (by omega) {H,I.tok _,q}
 |ref p=>
  cases V;have Z:(∃xs,SqL X.K H p xs/\k=!xs.isEmpty)\/(∃xs,SqT X.K H p xs/\k=!xs.isEmpty)\/∃kvs,H p=some (.dK kvs)/\k=!kvs.isEmpty:=e
  rcases Z with⟨xs,hx,Z⟩|⟨xs,hx,Z⟩|⟨kvs,hx,Z⟩
  ·subst Z;obtain⟨U,r,pl,O⟩:=I.list hx;have Y:=r.length;exact wpAny_truthy_list pl.isList (by simp only[aF];omega) {H,I.tok _,by rw[wy r];exact q}
  ·subst Z;obtain⟨U,r,pl,O⟩:=I.tuple hx;have Y:=r.length;exact truthy_tuple pl (by simp only[aF];omega) {H,I.tok _,by rw[wy r];exact q}
  ·subst Z;obtain⟨O,J,vs,r,m⟩:kvs.length<=aB/\(p==fi)=false/\∃vs,KV kvs vs/\s.heap.DictOf (eZ X.prog X.w) p vs:=I.hok p _ hx;have Y:kvs.length=vs.length:=aZ r;exact wpAny_truthy_dict J m (by omega) {H,I.tok _,by rw[Be r];exact q}
 |_=>exact (show False from e).elim
theorem wz(ha:PE X a ta)(W:∀Z,Fz a X.env Z=(do let v <- Z;xu a.pos;rZ [v] (truthy v))) :
  PT X a (fun σ H Q=>ta σ H fun x H'=>∃k,TruV X.K x H' k/\Q k H'):=by
 intro pins s σ H Q I h;exact isTrue_plain (thn (ha pins s σ H _ I h) fun v V ⟨x,H1,Y,r1,U⟩=>Ng pins V σ H1 x v Q Y r1 U) (W _)
theorem wA:OpR X (iy .Add) (fun x y H Q=>∃i j,x=.str i/\y=.str j/\i.length+j.length<=aB/\Q (.str (i++j)) H):=by
 intro pins s σ H x y v u Q I Y Z h;obtain⟨i,j,rfl,rfl,W,q⟩:=h;obtain⟨t,rfl⟩:=Y;obtain⟨t',rfl⟩:=Z;exact add_str (fun t' tk=>{.str (i++j),H,I.tok _,{_,rfl},q}) W
theorem vals1{x:V}{us:List ae}(r:c9 [x] us):∃u,us=[u]/\RelV x u:=by
 cases r with
 |cons r1 r2=>cases r2;exact{_,rfl,r1}
theorem vals2{x y:V}{us:List ae}(r:c9 [x,y] us):∃u Z,us=[u,Z]/\RelV x u/\RelV y Z:=by
 cases r with
 |cons r1 r2=>
  cases r2 with
  |cons r3 Y=>cases Y;exact{_,_,rfl,r1,r3}
theorem FK:jT X (.builtin "abs") (fun xs H Q=>∃i,xs=[.int i]/\Q (.int (if i<0 then -i else i)) H):=by
 intro pins s σ H xs us Q I r h;obtain⟨i,rfl,q⟩:=h;obtain⟨u,rfl,t,rfl⟩:=vals1 r;exact call_abs_int fun u tk=>{.int (if i<0 then -i else i),H,I.tok _,{_,rfl},q}
theorem um(hc:X.calm=true):jT X (.builtin "max") (fun xs H Q=>∃i j,xs=[.int i,.int j]/\Q (.int (if j>i then j else i)) H):=by
 intro pins s σ H xs us Q I r h;obtain⟨i,j,rfl,q⟩:=h;obtain⟨u,Y,rfl,⟨t,rfl⟩,⟨t',rfl⟩⟩:=vals2 r;refine max_two_ints (I.ok.hd hc) fun h' tk k=>{_,H,I.kept k,?_,q}
 by_cases Z:j>i
 ·rw[if_pos Z,if_pos Z];exact{_,rfl}
 ·rw[if_neg Z,if_neg Z];exact{_,rfl}
theorem xW(hc:X.calm=true):jT X (.builtin "min") (fun xs H Q=>∃i j,xs=[.int i,.int j]/\Q (.int (if j<i then j else i)) H):=by
 intro pins s σ H xs us Q I r h;obtain⟨i,j,rfl,q⟩:=h;obtain⟨u,Y,rfl,⟨t,rfl⟩,⟨t',rfl⟩⟩:=vals2 r;refine min_two_ints (I.ok.hd hc) fun h' tk k=>{_,H,I.kept k,?_,q}
 by_cases Z:j<i
 ·rw[if_pos Z,if_pos Z];exact{_,rfl}
 ·rw[if_neg Z,if_neg Z];exact{_,rfl}
theorem q8:jT X (.type "int") (fun xs H Q=>(∃i,xs=[.int i]/\Q (.int i) H)\/∃k,xs=[.bl k]/\Q (.int (if k then 1 else 0)) H):=by
 intro pins s σ H xs us Q I r h
 rcases h with⟨i,rfl,q⟩|⟨k,rfl,q⟩
 ·obtain⟨u,rfl,t,rfl⟩:=vals1 r;exact call_int_int {.int i,H,I,{_,rfl},q}
 ·obtain⟨u,rfl,r1⟩:=vals1 r
  cases r1;exact call_int_bool {.int (if k then 1 else 0),H,I.tok _,{_,rfl},q}
end
structure Bf(h:cC)(x dx C:aa)(mA:Str->Option ae):Prop where
 obj:h.get? x=some (gP C dx)
 ns:h.Ns1 dx mA
 ne:dx≠x
theorem Ew{h:cC}{dx:aa}{mA:Str->Option ae}(n:h.Ns1 dx mA):∃od,h.get? dx=some od/\∀name,qi name od=some (mA name):=by
 obtain⟨o,es,ep,ho,hd,hk,_,hm⟩:=n;refine{o,ho,fun name=>?_};have e:=hm name;unfold nsFind findBy at e;rw[<- Array.find?_toList]at e;unfold qi;rw[hd];dsimp only
 split
 ·rename_i y q
  rw[q]at e;exact congrArg some e
 ·rename_i q
  rw[q]at e;have a:es.toList.any (·.refKey)=false:=by
   rw[List.any_eq_false];intro y hy;obtain⟨z,t,Z⟩:=hk y (Array.mem_toList_iff.mp hy);simp[DictEntry.refKey,Z]
  have Y:¬es.toList.any (·.refKey)=true:=by rw[a];exact aY
  rw[if_neg Y];exact congrArg some e
theorem Bf.look{h:cC}{x dx C:aa}{mA:Str->Option ae}(I:Bf h x dx C mA):∃od,jC h x (gP C dx) C (some od)/\∀name,qi name od=some (mA name):=
 let ⟨od,ho,hl⟩:=Ew I.ns
 {od,⟨I.obj,rfl,rfl,ho⟩,hl}
section
variable{prog:aM}{w:bO}{A:cj}{E:ae->ao->Prop}{s:ao}{K:af}{x dx C f:aa}{mA:Str->Option ae}{name:Str}{v:ae}
theorem JD{Z:Bool}{Q:ae->ao->Prop}(X:K.In s.heap)(I:Bf s.heap x dx C mA)(V:og K C name=true)(hh:tf K C=true)
  (ha:aU K (.ref C) name=some none) (hv:mA name=some v) (Y:Ey v=true) (h:Q v {s with toks:=s.toks+1}) :
  aX (bA prog w) A (getAttr (.ref x) name Z) Q E s:=by
 obtain⟨od,J,hl⟩:=I.look;exact PySem.W.get_value X J (rK V).1 (PySem.W.findObj_own hh ha rfl (by rw[hl,hv])) Y h
theorem FL{pl:Sem Bool}{Q:ae×List ae->ao->Prop}(X:K.In s.heap)(I:Bf s.heap x dx C mA)(Z:og K C name=true)
  (Y:aU K (.ref C) name=some (some (.ref f))) (ht:oX K (.ref f)=true) (hv:mA name=none) (h:Q (.ref f,[.ref x]) s) :
  aX (bA prog w) A (oU (.ref x) name pl) Q E s:=by
 obtain⟨od,J,hl⟩:=I.look;exact PySem.W.method_fn X J (rK Z).1 (rK Z).2 Y (beq_iff_eq.mp ht) (by show (qi name od).map (·.isSome)=some false;rw[hl,hv];rfl) h
theorem JE{ns:List Str}{Q:Unit->ao->Prop}(X:K.In s.heap)(I:Bf s.heap x dx C mA)
  (hs:aU K (.ref C) "__setattr__"=some (some (.builtin "object.__setattr__"))) (hp:Cr K C=true) (ht:vn K C name=some none) (hh:tf K C=true)
  (hw:z5 mA ns) (hsz:ns.length<=aB)
  (h:∀h',Bf h' x dx C (fun y=>if y=name then some v else mA y)->uQ dx s.heap h'->Q () {s with heap:=h',toks:=s.toks+2}) :
  aX (bA prog w) A (setAttr (.ref x) name v) Q E s:=by
 obtain⟨od,J,hl⟩:=I.look;refine PySem.W.set_plain X J hs (PySem.W.osa_open (s:={s with toks:=s.toks+1}) (r:=none) X J hp ht fun b=>?_);obtain⟨cd,hc,U⟩:=PySem.W.any_some hh;have hx:s.heap.get? x=some {.ref C,some dx,.plain,#[]}:=I.obj;refine ai (aO (ai (ai (Bg hx (ai (PySem.W.Looks.here (s:={s with toks:=s.toks+1}) (PySem.W.looks_clsIn X hc) ?_))))));rw[U];refine aO (a:=some dx) (ai (aO (ai ?_)));refine wpAny_nsSet1 (s:={s with toks:=s.toks+1}) I.ns fun h' Y Z=>?_;obtain⟨g,z,D,H,O,V⟩:=Y.count (PySem.Within.cons name v hw);refine ai (wpAny_lookBehind H (by rw[O];exact pastItsLine_dict (dB V (by rw[aS];omega))) ?_);exact aO (h _ {(Z.2 _ (gi I.ne)).trans I.obj,Y,I.ne} Z)
theorem FM{R:FN->ao->Prop}{vs:List ae}{Z:List (Str×ae)}(X:K.In s.heap)(hm:vp K C=true)
  (hi:aU K (.ref C) "__init__"=some (some (.ref f))) (Y:FO K (.ref f)=some (.type "function"))
  (h:oh (bA prog w) (A.under (.builtin "type.__call__" {.ref C::vs,Z})) (.call (.ref f) {.ref (s.heap.objs.size+1)::vs,Z}) (PySem.W.InitBack (s.heap.objs.size+1) R)
   {s with heap:=(s.heap.push fj).push (gP C s.heap.objs.size)}) :
  oh (bA prog w) A (.call (.ref C) ⟨vs,Z⟩) R s:=by
 obtain⟨hh,g,d,t,os⟩:=s;exact PySem.W.make_core (PySem.W.makes_of X hm) (gS X hi) (fun self=>PySem.W.bind_fn X self Y) (.inl rfl) h
end
def cJ(f:Str)(v:V):List (Str×V)->List (Str×V)
 | []=>[(f,v)]
 |(g,x)::r=>if g=f then (g,v)::r else (g,x)::cJ f v r
theorem uT(f g:Str)(v:V):∀fs:List (Str×V),(cJ f v fs).lookup g=if g=f then some v else fs.lookup g
 | []=>by
  show kT g [(f,v)]=_
  by_cases h:g=f
  ·have hb:(g==f)=true:=beq_iff_eq.mpr h;simp only[kT,hb,if_pos h]
  ·have hb:(g==f)=false:=beq_eq_false_iff_ne.mpr h;simp only[kT,hb,if_neg h]
 |(k,x)::r=>by
  have Z:=uT f g v r;rw[show cJ f v ((k,x)::r)=(if k=f then (k,v)::r else (k,x)::cJ f v r) from rfl]
  by_cases hk:k=f
  ·rw[if_pos hk]
   by_cases h:g=k
   ·have hb:(g==k)=true:=beq_iff_eq.mpr h;simp only[kT,hb,if_pos (h.trans hk)]
   ·have hb:(g==k)=false:=beq_eq_false_iff_ne.mpr h;simp only[kT,hb,if_neg (fun e:g=f=>h (e.trans hk.symm))]
  ·rw[if_neg hk]
   by_cases h:g=k
   ·have hb:(g==k)=true:=beq_iff_eq.mpr h;simp only[kT,hb,if_neg (fun e:g=f=>hk (h.symm.trans e))]
   ·have hb:(g==k)=false:=beq_eq_false_iff_ne.mpr h;simp only[kT,hb];exact Z
theorem uo(f:Str)(v:V):∀fs:List (Str×V),f∈(cJ f v fs).map (·.1)/\∀g,g∈fs.map (·.1)->g∈(cJ f v fs).map (·.1)
 | []=>{by simp[cJ],fun g h=>by simp at h}
 |(k,x)::r=>by
  obtain⟨i1,i2⟩:=uo f v r;rw[show cJ f v ((k,x)::r)=(if k=f then (k,v)::r else (k,x)::cJ f v r) from rfl]
  by_cases hk:k=f
  ·rw[if_pos hk];subst hk;exact{by simp,fun g h=>by simpa using h}
  ·rw[if_neg hk];refine{?_,fun g h=>?_}
   ·rw[cg];exact ak _ i1
   ·rw[cg]at h |-
    rcases ar.mp h with e|e
    ·exact ar.mpr (.inl e)
    ·exact ak _ (i2 g e)
theorem uU(f:Str)(v:V):∀fs:List (Str×V),(cJ f v fs).length<=fs.length+1
 | []=>by simp[cJ]
 |(k,x)::r=>by
  have Z:=uU f v r;rw[show cJ f v ((k,x)::r)=(if k=f then (k,v)::r else (k,x)::cJ f v r) from rfl]
  by_cases hk:k=f
  ·rw[if_pos hk,aS,aS];omega
  ·rw[if_neg hk,aS,aS];omega
theorem rH.some_of{v:V}{o:Option ae}(r:rH (some v) o):∃u,o=some u/\RelV v u:=by
 cases o with
 |none=>exact (show False from r).elim
 |some u=>exact⟨u,rfl,r⟩
theorem rH.none_of{o:Option ae}(r:rH none o):o=none:=by
 cases o with
 |none=>rfl
 |some u=>exact (show False from r).elim
theorem Ez{v:V}{u:ae}(r:RelV v u):Ey u=true:=by
 cases v with
 |non=>cases (show u=Value.none from r);rfl
 |bl b=>cases (show u=Value.bool b from r);rfl
 |int i=>obtain⟨t,e⟩:=(show ∃t,u=Value.int i t from r);cases e;rfl
 |str x=>obtain⟨t,e⟩:=(show ∃t,u=Value.str x t from r);cases e;rfl
 |byt b=>obtain⟨t,e⟩:=(show ∃t,u=Value.bytes b t from r);cases e;rfl
 |flt b=>obtain⟨t,e⟩:=(show ∃t,u=Value.float b t from r);cases e;rfl
 |ref a=>cases (show u=Value.ref a from r);rfl
 |ty n=>cases (show u=Value.type n from r);rfl
section
variable{P:aM}{w:bO}{H H':Hp}{h h':cC}{a C dx:aa}{fs fs':List (Str×V)}
theorem vF(hok:HOk P w H h)(e:H a=some (.ins C dx fs)):∃mA,Bf h a dx C mA/\(∀f,rH (fs.lookup f) (mA f))/\z5 mA (fs.map (·.1))/\fs.length<=1000/\H dx=some (.own a):=by
 obtain⟨d,z,ne,ob,mA,n,r,q⟩:=(show eP P w H h a (.ins C dx fs) from hok a _ e);exact{mA,⟨ob,n,ne⟩,r,q,z,d}
end
structure Cls(K:af)(C:aa):Prop where
 pg:og K C Str.empty=true
 hd:tf K C=true
 po:Cr K C=true
 sa:aU K (.ref C) "__setattr__"=some (some (.builtin "object.__setattr__"))
theorem Cls.get{K:af}{C:aa}(c:Cls K C)(f:Str):og K C f=true:=c.pg
def eM(K:af)(C:aa)(f:Str):Prop:=aU K (.ref C) f=some none
theorem eM.taker{K:af}{C:aa}{f:Str}(n:eM K C f):vn K C f=some none:=by
 unfold vn;rw[show aU K (.ref C) f=some none from n];rfl
structure yQ(K:af)(C:aa)(m:Str)(f:aa):Prop where
 at_:aU K (.ref C) m=some (some (.ref f))
 fn:oX K (.ref f)=true
 kp:gF K (.ref f)=true
section
variable{X:Cx}{pins:List (aa×Obj)}{σ:St}{H:Hp}{s:ao}{a C dx:aa}{fs:List (Str×V)}{f:Str}{v:V}{A:cj}{E:ae->ao->Prop}
theorem wB{b:Bool}{Q:ae->ao->Prop}(I:Inv X pins σ H s)(e:H a=some (.ins C dx fs))(c:Cls X.K C)(n:eM X.K C f)(l:fs.lookup f=some v)
  (h:∀u s',Inv X pins σ H s'->RelV v u->Q u s'):aX (bA X.prog X.w) A (getAttr (.ref a) f b) Q E s:=by
 obtain⟨mA,O,r,_,_,_⟩:=vF I.hok e;obtain⟨u,hu,ru⟩:=rH.some_of (v:=v) (o:=mA f) (by rw[<- l];exact r f);exact JD I.kIn O (c.get f) c.hd n hu (Ez ru) (h u _ (I.tok _) ru)
theorem sC{m:Str}{g:aa}{pl:Sem Bool}{Q:ae×List ae->ao->Prop}(I:Inv X pins σ H s)(e:H a=some (.ins C dx fs))(c:Cls X.K C)(k:yQ X.K C m g)(l:fs.lookup m=none)
  (h:Q (.ref g,[.ref a]) s):aX (bA X.prog X.w) A (oU (.ref a) m pl) Q E s:=by
 obtain⟨mA,O,r,_,_,_⟩:=vF I.hok e;have Z:mA m=none:=rH.none_of (by rw[<- l];exact r m);exact FL I.kIn O (c.get m) k.at_ k.fn Z h
theorem wC{y:V}{u:ae}{Q:Unit->ao->Prop}(I:Inv X pins σ H s)(e:H a=some (.ins C dx fs))(c:Cls X.K C)(n:eM X.K C f)(hl:fs.length<1000)(U:RelV y u)
  (h:∀s',Inv X pins σ (upd H a (.ins C dx (cJ f y fs))) s'->Q () s'):aX (bA X.prog X.w) A (setAttr (.ref a) f u) Q E s:=by
 obtain⟨mA,O,r,Y,_,ho⟩:=vF I.hok e;have J:(fs.map (·.1)).length<=aB:=by rw[au,mw];omega
 refine JE I.kIn O c.sa c.po n.taker c.hd Y J fun h' Z sb=>h _ ?_;have hd:∃o,h'.get? dx=some o:=let ⟨o,_,_,W,_⟩:=Z.ns;⟨o,W⟩;refine I.write (x:=a) (e:=dx) (by rw[e];exact True.intro) (.inr ho) (fun b q hb z=>(sb.2 b hb).trans z) hd ?_;refine{by rw[aN O.ne];exact ho,?_,O.ne,Z.obj,_,Z.ns,fun g=>?_,fun g D=>?_}
 ·have:=uU f y fs;omega
 ·show rH ((cJ f y fs).lookup g) (if g=f then some u else mA g);rw[uT]
  by_cases q:g=f
  ·rw[if_pos q,if_pos q];exact U
  ·rw[if_neg q,if_neg q];exact r g
 ·by_cases q:g=f
  ·rw[q];exact (uo f y fs).1
  ·refine (uo f y fs).2 g (Y g fun z=>D ?_);show (if g=f then some u else mA g)=none;rw[if_neg q];exact z
theorem Inv.made(I:Inv X pins σ H s):Inv X pins σ (upd (upd H s.heap.objs.size (.own (s.heap.objs.size+1))) (s.heap.objs.size+1) (.ins C s.heap.objs.size []))
  {s with heap:=(s.heap.push fj).push (gP C s.heap.objs.size)}:=by
 have e1:(s.heap.push fj).get? s.heap.objs.size=some fj:=cz s.heap rfl;have Z:((s.heap.push fj).push (gP C s.heap.objs.size)).get? (s.heap.objs.size+1)=some (gP C s.heap.objs.size):=by
  have:=cz (s.heap.push fj) (o:=gP C s.heap.objs.size) rfl
  rwa[rO]at this
 have e3:(s.heap.push fj).Ns s.heap.objs.size (fun _=>none):={fj,#[],_,e1,rfl,(fun e W=>absurd W (by simp)),fun _=>rfl};have Y:=I.laid (a:=s.heap.objs.size) (o:=.own (s.heap.objs.size+1)) (h':=s.heap.push fj) (t':=s.toks) (fun b u q=>aJ _ q) (ax _) {_,e1};refine Y.laid (a:=s.heap.objs.size+1) (o:=.ins C s.heap.objs.size []) (t':=s.toks) (fun b u q=>aJ _ q) (Bh (rO _ _)) ?_;have ne:s.heap.objs.size≠s.heap.objs.size+1:=aQ (wD _);refine{by rw[aN ne,aj],cm _,ne,Z,fun _=>none,(Heap.Ns1.of_empty e3).at fun o q=>aJ _ q,fun _=>True.intro,fun y hy=>absurd rfl hy}
theorem JF{prog:aM}{w:bO}{env:Env}{e:cU}{f:Str}{pos:Pos}{s:ao}{Q:ae->ao->Prop}(hb:me e f env (gf e env)=gf e env)
  (h:aX (bA prog w) A (gf e env) (fun o Z=>aX (bA prog w) A (getAttr o f true) Q E Z) E s):aX (bA prog w) A (gf (.Attribute e f pos) env) Q E s:=
 Attribute_any_ h (by rw[arm_eval_Attribute,hb])
end
inductive FldI(K:af)(f:Str)(x:V)(H:Hp)(Q:VK):Prop where
 |mk(a C dx:aa)(fs:List (Str×V))(v:V)(hx:x=.ref a)(h:H a=some (.ins C dx fs))(c:Cls K C)(n:eM K C f)(e:fs.lookup f=some v)(q:Q v H):FldI K f x H Q
def Nh(K:af)(ta:TE)(f:Str):TE:=fun σ H Q=>ta σ H fun x H1=>FldI K f x H1 Q
def sFld(K:af)(ta tv:TE)(f:Str):TS:=fun D σ H=>tv σ H fun y H1=>ta σ H1 fun x H2=>∃a C dx fs,x=.ref a/\H2 a=some (.ins C dx fs)/\Cls K C/\eM K C f/\fs.length<1000 /\
 D.nx σ (upd H2 a (.ins C dx (cJ f y fs)))
def InOp(X:Cx)(op:Jy)(rd:V->V->Hp->VK->Prop):Prop:=
 ∀(pins:List (aa×Obj)) (s:ao) (σ:St) (H:Hp) (x y:V) (u v:ae) (Q:VK),Inv X pins σ H s->RelV x u->RelV y v->rd x y H Q->aX (bA X.prog X.w) X.A (inplaceOp op u v) (EP X pins σ Q) X.xe s
def JG(K:af)(ta tv:TE)(rd:V->V->Hp->VK->Prop)(f:Str):TS:=fun D σ H=>ta σ H fun x H1=>∃a C dx fs v,x=.ref a/\H1 a=some (.ins C dx fs)/\Cls K C/\eM K C f/\fs.lookup f=some v /\
 tv σ H1 fun y H2=>rd v y H2 fun z Y=>∃Z fs',Y a=some (.ins C Z fs')/\fs'.length<1000/\D.nx σ (upd Y a (.ins C Z (cJ f z fs')))
section
variable{X:Cx}{o e value:cU}{f:Str}{pos pos' tpos:Pos}{ta tv:TE}
theorem cV(U:PE X e ta)(hb:me e f X.env (gf e X.env)=gf e X.env):PE X (.Attribute e f pos) (Nh X.K ta f):=by
 intro pins s σ H Q I h;refine JF hb (thn (U pins s σ H _ I h) fun u J ⟨x,H1,V,Y,a,C,dx,fs,v,ex,W,c,n,l,q⟩=>?_);subst ex;obtain rfl:u=Value.ref a:=Y;exact wB V W c n l fun O s2 Z ru=>⟨v,H1,Z,ru,q⟩
theorem eT(ha:PE X o ta)(hv:PE X value tv)(hs:uR value (some (.Attribute o f pos')) pos.line X.env=pure false):PS X (.Assign [.Attribute o f pos'] value pos) (sFld X.K ta tv f):=by
 intro pins s σ H D I h;refine plainObj_wpAny_Assign_Attribute (thn (hv pins s σ H _ I h) fun u Z ⟨y,H1,J,W,q⟩=>thn (ha pins Z σ H1 _ J q) fun O s2 ⟨x,H2,Y,V,a,C,dx,fs,ex,U,c,n,l,z⟩=>?_) hs;subst ex;obtain rfl:O=Value.ref a:=V;exact wC Y U c n l W fun s3 g=>{σ,_,g,z}
theorem xX{op:Jy}{rd:V->V->Hp->VK->Prop}(ha:PE X o ta)(hv:PE X value tv)(Z:InOp X op rd):PS X (.AugAssign (.Attribute o f tpos) op value pos) (JG X.K ta tv rd f):=by
 intro pins s σ H D I h;refine wpAny_AugAssign_AttributeAny (thn (ha pins s σ H _ I h) fun ov s1 ⟨x,H1,I1,rx,a,C,dx,fs,v,ex,ea,c,n,l,q⟩=>?_);subst ex;obtain rfl:ov=Value.ref a:=rx;refine wB I1 ea c n l fun u s2 I2 ru=>thn (hv pins s2 σ H1 _ I2 q) fun w3 s3 ⟨y,H2,g,ry,q3⟩=>thn (Z pins s3 σ H2 v y u w3 _ g ru ry q3) fun w4 s4 ⟨z,H3,J,rz,W,fs',Y,O,U⟩=>?_;exact wC J Y c n O rz fun s5 I5=>{σ,_,I5,U}
def rAdd:V->V->Hp->VK->Prop:=fun x y H Q=>∃i j,x=.int i/\y=.int j/\Q (.int (i+j)) H
theorem FP:InOp X .Add rAdd:=by
 rintro pins s σ H x y u v Q I Y Z ⟨i,j,rfl,rfl,q⟩;obtain⟨t,rfl⟩:=(show ∃t,u=Value.int i t from Y);obtain⟨t',rfl⟩:=(show ∃t',v=Value.int j t' from Z);exact PyProof.Rows.iadd_int {.int (i+j),H,I.tok _,{_,rfl},q}
theorem methcall_of{pl:Sem Bool}{m:Str}{apos:Pos}{args:List cU}{pins:List (aa×Obj)}{s:ao}{σ:St}{H:Hp}{Q:ae->ao->Prop}{te:TE}(O:PE X e te)(I:Inv X pins σ H s)
  (h:te σ H fun x H1=>∃a C dx fs g,x=.ref a/\H1 a=some (.ins C dx fs)/\Cls X.K C/\yQ X.K C m g/\fs.lookup m=none /\
   ∀Z,Inv X pins σ H1 Z->aX (bA X.prog X.w) X.A (Bi pos (.ref g) [.ref a] (jj pos (cK args X.env)) (oY pos (jm [] X.env))) Q X.xe Z)
  (ht:gf (.Call (.Attribute e m apos) args [] pos) X.env=(do
   let Y <- gf e X.env
   xu apos.atName
   let (f,first) <- rZ [Y] (oU Y m pl)
   Bi pos f first (jj pos (cK args X.env)) (oY pos (jm [] X.env)))) :
  aX (bA X.prog X.w) X.A (gf (.Call (.Attribute e m apos) args [] pos) X.env) Q X.xe s:=by
 refine jU (pl:=pl) (thn (O pins s σ H _ I h) fun u Z ⟨x,H1,W,V,a,C,dx,fs,g,ex,U,c,k,l,q⟩=>?_) ht;subst ex;obtain rfl:u=Value.ref a:=V;exact sC W U c k l (q Z W)
end
section
variable{X:Cx}{pins:List (aa×Obj)}{σ:St}{H:Hp}{s:ao}{A:cj}{E:ae->ao->Prop}{Q:ae->ao->Prop}{c:ae}{b:Bool}
inductive tj(K:af)(H:Hp):V->ae->Prop where
 |non:tj K H .non (.type "NoneType")
 |bl(x:Bool):tj K H (.bl x) (.type "bool")
 |int(i:Int):tj K H (.int i) (.type "int")
 |str(x:Str):tj K H (.str x) (.type "str")
 |flt(x:UInt64):tj K H (.flt x) (.type "float")
 |lst{a:aa}{xs:List V}(e:H a=some (.lst xs)):tj K H (.ref a) (.type "list")
 |frz{a:aa}{o:Obj}{xs:List V}(e:H a=some (.frz o (.lst xs))):tj K H (.ref a) (.type "list")
 |tup{a:aa}{xs:List V}(e:H a=some (.tup xs)):tj K H (.ref a) (.type "tuple")
 |dK{a:aa}{kvs:List (Key×V)}(e:H a=some (.dK kvs)):tj K H (.ref a) (.type "dict")
 |dT{a:aa}{kvs:List (List Key×V)}(e:H a=some (.dT kvs)):tj K H (.ref a) (.type "dict")
 |ins{a C dx:aa}{fs:List (Str×V)}(e:H a=some (.ins C dx fs))(cl:Cls K C)(ha:aU K (.ref C) "__class__"=some (some (.builtin "object.__class__")))
   (hn:Cs K (.builtin "object.__class__") "__get__"=some (some (.builtin "getset_descriptor.__get__"))) (htk:Fi K (.builtin "object.__class__")=some true)
   (hm:xx K C (.type "object")=some true):tj K H (.ref a) (.ref C)
theorem EA{x:V}{u t:ae}(I:Inv X pins σ H s)(Z:RelV x u)(ty:tj X.K H x t)(e:bV X.K t c=some b)(h:∀tk,Q (.bool b) {s with toks:=tk}) :
  aX (bA X.prog X.w) A (xw (.builtin "isinstance") [u,c]) Q E s:=by
 cases ty with
 |non=>cases (show u=Value.none from Z);exact eD PySem.W.kitx_none I.kIn True.intro e (fun z=>nomatch z) h
 |bl y=>cases (show u=Value.bool y from Z);exact eD PySem.W.kitx_bool I.kIn True.intro e (fun z=>nomatch z) h
 |int i=>obtain⟨t,q⟩:=(show ∃t,u=Value.int i t from Z);cases q;exact eD PySem.W.kitx_int I.kIn True.intro e (fun z=>nomatch z) h
 |str y=>obtain⟨t,q⟩:=(show ∃t,u=Value.str y t from Z);cases q;exact eD PySem.W.kitx_str I.kIn True.intro e (fun z=>nomatch z) h
 |flt y=>obtain⟨t,q⟩:=(show ∃t,u=Value.float y t from Z);cases q;exact eD PySem.W.kitx_float I.kIn True.intro e (fun z=>nomatch z) h
 |@lst a xs Y=>
  cases (show u=Value.ref a from Z);obtain⟨_,_,n,_,h1⟩:=(show eP X.prog X.w H s.heap a (.lst xs) from I.hok a _ Y);exact eD Ct I.kIn {_,h1,rfl} e (fun z=>nomatch z) h
 |@frz a ob xs Y=>
  cases (show u=Value.ref a from Z);obtain⟨_,_,_,n,_,h1⟩:=(show eP X.prog X.w H s.heap a (.frz ob (.lst xs)) from I.hok a _ Y);exact eD Ct I.kIn {_,h1,rfl} e (fun z=>nomatch z) h
 |@tup a xs Y=>
  cases (show u=Value.ref a from Z);obtain⟨_,_,_,p⟩:=(show eP X.prog X.w H s.heap a (.tup xs) from I.hok a _ Y);obtain⟨o,h1,h2,_⟩:=p;exact eD PySem.W.kitx_tuple I.kIn ⟨o,h1,h2⟩ e (fun z=>nomatch z) h
 |@dK a kvs Y=>
  cases (show u=Value.ref a from Z);obtain⟨_,_,vs,_,p⟩:=(show eP X.prog X.w H s.heap a (.dK kvs) from I.hok a _ Y);obtain⟨o,es,ep,h1,h2,_⟩:=p;exact eD Cu I.kIn ⟨o,h1,h2.1⟩ e (fun z=>nomatch z) h
 |@dT a kvs Y=>
  cases (show u=Value.ref a from Z);obtain⟨_,_,xs,_,o,es,ep,h1,h2,_⟩:=(show eP X.prog X.w H s.heap a (.dT kvs) from I.hok a _ Y);exact eD Cu I.kIn ⟨o,h1,h2.1⟩ e (fun z=>nomatch z) h
 |@ins a C dx fs Y cl ha D U hm=>
  cases (show u=Value.ref a from Z);obtain⟨mA,O,_⟩:=vF I.hok Y;obtain⟨od,J,_⟩:=O.look;exact eD (PySem.W.kitx_own (cl.get _) cl.hd ha D U hm) I.kIn J e (fun z=>nomatch z) h
end
structure cZ(k:Nat)(A:cj):Prop where
 hd:A.handled=none
 dp:A.depth+3*k+5<recursionLimit
 un:A.units+16*k+200<eN
theorem cZ.mono{j k:Nat}{A:cj}(r:cZ k A)(h:j<=k):cZ j A:={r.hd,by have:=r.dp;omega,by have:=r.un;omega}
theorem cZ.deeper{k:Nat}{A:cj}(r:cZ (k+1) A)(env:Env):cZ k (A.deeper env):=
 {r.hd,by have:=r.dp;show A.depth+1+3*k+5<_;omega,by have:=r.un;show A.units+3+16*k+200<_;omega}
theorem Bj{A:cj}{C:aa}{us:List ae}{Z:List (Str×ae)}:(A.under (.builtin "type.__call__" {.ref C::us,Z})).depth=A.depth+1:=by
 first|rfl|simp[zR,Code.weight,Code.isCreation,Code.isGuard,Code.isCaller,Code.frames,A2,guardIds]
theorem Bk{A:cj}{C:aa}{us:List ae}{Z:List (Str×ae)}:(A.under (.builtin "type.__call__" {.ref C::us,Z})).units=A.units+1:=by
 first|rfl|simp[zR,Code.cUnits,Code.frames,A2]
theorem cZ.make{k:Nat}{A:cj}(r:cZ (k+1) A)(C:aa)(us:List ae)(Z:List (Str×ae)):cZ k (A.under (.builtin "type.__call__" {.ref C::us,Z})):=
 {r.hd,by have:=r.dp;rw[Bj];omega,by have:=r.un;rw[Bk];omega}
theorem cZ.depth{k:Nat}{A:cj}(r:cZ k A):A.depth<recursionLimit:=by have:=r.dp;omega
theorem cZ.units{k:Nat}{A:cj}(r:cZ k A):A.units+64<eN:=by have:=r.un;omega
def Bm:TA:=fun _ H Q=>Q [] H
def pQ(ta:TE)(tr:TA):TA:=fun σ H Q=>ta σ H fun x H1=>tr σ H1 fun xs H2=>Q (x::xs) H2
section
variable{X:Cx}{e:cU}{es:List cU}{te:TE}{t:TA}{pos:Pos}
theorem ag:PA X [] Bm:=fun _ _ _ _ H Q I h=>Calls.spliced_nil {[],H,I,.nil,h}
theorem aq(ha:PE X e te)(hr:PA X es t)(hs:cK (e::es) X.env=(false,gf e X.env)::cK es X.env:=by rfl):PA X (e::es) (pQ te t):=by
 intro pos pins s σ H Q I h;rw[hs];show aX _ _ (spliced ((false,gf e X.env)::jj pos (cK es X.env))) _ _ s;refine Calls.spliced_cons (thn (ha pins s σ H _ I h) fun u Z ⟨x,H1,W,r1,U⟩=>?_);exact thn (hr pos pins Z σ H1 _ W U) fun us s2 ⟨xs,H2,Y,r2,V⟩=>{x::xs,H2,Y,.cons r1 r2,V}
def tTup(t:TA):TE:=fun σ H Q=>t σ H fun xs H1=>xs.length<=aB/\∀p,H1 p=none->Q (.ref p) (upd H1 p (.tup xs))
def tLst(t:TA):TE:=fun σ H Q=>t σ H fun xs H1=>xs.length<=aB/\∀p,H1 p=none->Q (.ref p) (upd H1 p (.lst xs))
theorem dZ {x1} (h:PA X es t):PE X (.Tuple es x1 pos) (tTup t):=by
 intro pins s σ H Q I hq;refine wpAny_Tuple_spliced (thn (h pos pins s σ H _ I hq) fun us Z ⟨xs,H1,Y,r,z,q⟩=>{by rw[<- r.length];exact z,?_});have W:H1 Z.heap.objs.size=none:=Y.hok.fresh (ax _);refine{.ref Z.heap.objs.size,upd H1 Z.heap.objs.size (.tup xs),Y.laid (t':=Z.toks) (fun b u e=>aJ _ e) (ax _) ?_,rfl,q _ W};exact{z,us,r,{_,cz _ rfl,rfl,_,rfl}}
theorem eU(h:PA X es t):PE X (.List es pos) (tLst t):=by
 intro pins s σ H Q I hq;refine wpAny_List_spliced (thn (h pos pins s σ H _ I hq) fun us Z ⟨xs,H1,Y,r,z,q⟩=>{by rw[<- r.length];exact z,?_});have W:H1 Z.heap.objs.size=none:=Y.hok.fresh (ax _);refine{.ref Z.heap.objs.size,upd H1 Z.heap.objs.size (.lst xs),Y.laid (t':=Z.toks) (fun b u e=>aJ _ e) (ax _) ?_,rfl,q _ W};exact{z,us,0,r,cz _ rfl}
end
abbrev Sp:=List V->Hp->VK->XK->Prop
abbrev CXT:=List Env->Hp->ao->XK->ae->ao->Prop
structure yR(P:aM)(w:bO)(K:af)(mg:Str->Option ae)(base:cC)(A:cj)(outer:List Env)(s:ao)(H:Hp):Prop where
 frames:A.frames=some outer
 mod:Mod K mg base
 bs:∀b o,base.get? b=some o->s.heap.get? b=some o/\H b=none
 bsz:base.objs.size<=s.heap.objs.size
 funs:s.heap.FunFrames base outer
 frf:∀b∈frs outer,H b=none
 hok:HOk P w H s.heap
 bare:p6 s.gens
def CE(outer:List Env)(P:aM)(w:bO)(H:Hp)(s:ao)(Q:VK)(u:ae)(s':ao):Prop:=
 ∃v H',s'.os=s.os/\p6 s'.gens/\Un (frs outer) [] H H' s.heap s'.heap/\HOk P w H' s'.heap/\RelV v u/\Q v H'
def CR(CX:CXT)(outer:List Env)(P:aM)(w:bO)(H:Hp)(s:ao)(Q:VK)(E:XK)(r:FN)(s':ao):Prop:=
 match r with
 |.ok (.ret u)=>CE outer P w H s Q u s'
 |.ok _=>False
 |.error e=>CX outer H s E e s'
structure bL(P:aM)(w:bO)(K:af)(mg:Str->Option ae)(base:cC)(CX:CXT)(k:Nat)(f:aa)(fd:bX)(ps:List Str)(sp:Sp):Prop where
 len:∀vs H Q E,sp vs H Q E->vs.length=ps.length
 run:∀(A:cj) (outer:List Env) (s:ao) (H:Hp) (args:Args) (us:List ae) (vs:List V) (Q:VK) (E:XK),cZ k A->yR P w K mg base A outer s H->uV s fd args (ps.zip us)->c9 vs us->sp vs H Q E ->
  oh (bA P w) A (.call (.ref f) args) (CR CX outer P w H s Q E) s
theorem yR.make{P:aM}{w:bO}{K:af}{mg:Str->Option ae}{base:cC}{A:cj}{outer:List Env}{s:ao}{H:Hp}(e:yR P w K mg base A outer s H)(C:aa)(us:List ae)(Z:List (Str×ae)) :
  yR P w K mg base (A.under (.builtin "type.__call__" {.ref C::us,Z})) outer s H:={by first|exact e.frames|(simpa[zR,Code.envs,A2,pushEnvs] using e.frames),e.mod,e.bs,e.bsz,e.funs,e.frf,e.hok,e.bare}
section
variable{X:Cx}{pins:List (aa×Obj)}{σ:St}{H:Hp}{s s':ao}
theorem Inv.env0(I:Inv X pins σ H s):yR X.prog X.w X.K X.mg X.base X.A X.stack s H:=
 {I.ok.frames,I.ok.mod,I.bs,dB I.ok.bsz I.sz,I.stack,I.stkFree,I.hok,I.bare}
theorem Inv.after{Q:VK}{u:ae}(I:Inv X pins σ H s)(h:CE X.stack X.prog X.w H s Q u s'):EP X pins σ Q u s':=by
 obtain⟨v,H',os,bare,un,hok,r,q⟩:=h;obtain⟨hh,g,d,t,Z⟩:=s';obtain rfl:Z=s.os:=os;exact{v,H',I.call (h':=hh) (g':=g) (d':=d) (t':=t) (ch:=[]) un hok bare (fun b z=>absurd z (by simp)),r,q}
end
def tCall(sp:Sp)(dvs:List V)(E:XK)(t:TA):TE:=fun σ H Q=>t σ H fun vs H1=>sp (vs++dvs) H1 Q E
def Lp(C:aa)(m:Str)(sp:Sp)(dvs:List V)(E:XK)(ta:TE)(t:TA):TE:=fun σ H Q=>ta σ H fun x H1=>∃a dx fs,x=.ref a/\H1 a=some (.ins C dx fs)/\fs.lookup m=none /\
 t σ H1 fun vs H2=>sp (x::(vs++dvs)) H2 Q E
def Lq(C:aa)(sp:Sp)(dvs:List V)(E:XK)(t:TA):TE:=fun σ H Q=>t σ H fun vs H1=>∀x dx,H1 x=none->H1 dx=none->dx≠x ->
 sp (.ref x::(vs++dvs)) (upd (upd H1 dx (.own x)) x (.ins C dx [])) (fun v H2=>v=.non/\Q (.ref x) H2) E
def Binds(K:af)(fd:bX)(ps:List Str)(ds:List ae):Prop:=
 ∀(s:ao) (us:List ae),K.In s.heap->(us++ds).length=ps.length->uV s fd {us,[]} (ps.zip (us++ds))
theorem Binds.all{K:af}{fd:bX}{ps:List Str}(h:∀us:List ae,us.length=ps.length->Bn fd {us,[]}=pure (ps.zip us)):Binds K fd ps []:=fun s us _ hl=>by
 rw[cL]at hl |-;exact .of_eq (h us hl)
def lH(CX:CXT)(X:Cx)(E:XK):Prop:=∀(pins:List (aa×Obj)) (σ:St) (H:Hp) (s:ao) (e:ae) (s':ao),Inv X pins σ H s->CX X.stack H s E e s'->X.xe e s'
section
variable{X:Cx}{CX:CXT}{k:Nat}{f C:aa}{fd:bX}{ps:List Str}{sp:Sp}{dvs:List V}{ds:List ae}{E:XK}{x m:Str}{p pos apos:Pos}{e o:cU}{es:List cU}{ta:TE}{t:TA}
theorem Bo{pins:List (aa×Obj)}{σ:St}{H:Hp}{s:ao}{Q:VK}{us:List ae}{vs:List V}(F:bL X.prog X.w X.K X.mg X.base CX k f fd ps sp)(hr:cZ k X.A)(hb:Binds X.K fd ps ds)(hd:c9 dvs ds)(hx:lH CX X E)
  (I:Inv X pins σ H s) (r:c9 vs us) (h:sp (vs++dvs) H Q E):aX (bA X.prog X.w) X.A (xw (.ref f) us) (EP X pins σ Q) X.xe s:=by
 have r2:c9 (vs++dvs) (us++ds):=r.append hd;have hl:(us++ds).length=ps.length:=by rw[<- r2.length];exact F.len _ _ _ _ h
 refine sI (oj (F.run X.A X.stack s H {us,[]} (us++ds) (vs++dvs) Q E hr I.env0 (hb s us I.kIn hl) r2 h) fun r s' hq=>?_)
 cases r with
 |error e=>exact hx pins σ H s e s' I hq
 |ok fl=>
  cases fl with
  |ret u=>exact I.after hq
  |next=>exact cY hq
  |brk=>exact cY hq
  |cont=>exact cY hq
theorem aI(F:bL X.prog X.w X.K X.mg X.base CX k f fd ps sp)(hr:cZ k X.A)(U:Gl X x)(hm:X.mg x=some (.ref f))(hk:gF X.K (.ref f)=true)(hb:Binds X.K fd ps ds)(hd:c9 dvs ds)(hx:lH CX X E)
  (ha:PA X (e::es) t) (Z:(x==("__debug__":Str))=false:=by decide) (V:cK (e::es) X.env=(false,gf e X.env)::cK es X.env:=by rfl) (Y:(jj pos (cK es X.env)).any (·.1)=false:=by rfl) :
  PE X (.Call (.Name x p) (e::es) [] pos) (tCall sp dvs E t):=by
 intro pins s σ H Q I h;refine iD (qY I U hm ?_ Z);refine lI (h₀:=X.base) I.ok.mod.kin hk (thn (ha pos pins s σ H _ I h) fun us O ⟨vs,H1,W,r,q⟩=>{W.kIn,?_}) V Y;exact Bo F hr hb hd hx W r q
theorem gj{pl:Sem Bool}(D:PE X o ta)(c:Cls X.K C)(hm:yQ X.K C m f)(F:bL X.prog X.w X.K X.mg X.base CX k f fd ps sp)(hr:cZ k X.A)(hb:Binds X.K fd ps ds)(hd:c9 dvs ds)(hx:lH CX X E)(ha:PA X (e::es) t)
  (hst:cK (e::es) X.env=(false,gf e X.env)::cK es X.env:=by rfl) (Z:(jj pos (cK es X.env)).any (·.1)=false:=by rfl)
  (ht:gf (.Call (.Attribute o m apos) (e::es) [] pos) X.env=(do
   let W <- gf o X.env
   xu apos.atName
   let (f,first) <- rZ [W] (oU W m pl)
   Bi pos f first (jj pos (cK (e::es) X.env)) (oY pos (jm [] X.env))):=by rfl) :
  PE X (.Call (.Attribute o m apos) (e::es) [] pos) (Lp C m sp dvs E ta t):=by
 intro pins s σ H Q I h;refine jU (pl:=pl) (thn (D pins s σ H _ I h) fun u U ⟨x,H1,V,O,a,dx,fs,ex,J,l,q⟩=>?_) ht;subst ex;obtain rfl:u=Value.ref a:=O;refine sC V J c hm l ?_;refine lI (first:=[.ref a]) (h₀:=X.base) I.ok.mod.kin hm.kp (thn (ha pos pins U σ H1 _ V q) fun us s2 ⟨vs,H2,Y,r,z⟩=>{Y.kIn,?_}) hst Z;exact Bo (us:=.ref a::us) (vs:=.ref a::vs) F hr hb hd hx Y (.cons rfl r) z
theorem jb{pl:Sem Bool}(U:PE X o ta)(c:Cls X.K C)(hm:yQ X.K C m f)(F:bL X.prog X.w X.K X.mg X.base CX k f fd ps sp)(hr:cZ k X.A)(hb:Binds X.K fd ps ds)(hd:c9 dvs ds)(hx:lH CX X E)
  (ht:gf (.Call (.Attribute o m apos) [] [] pos) X.env=(do
   let Y <- gf o X.env
   xu apos.atName
   let (f,first) <- rZ [Y] (oU Y m pl)
   Bi pos f first (jj pos (cK [] X.env)) (oY pos (jm [] X.env))):=by rfl) :
  PE X (.Call (.Attribute o m apos) [] [] pos) (Lp C m sp dvs E ta Bm):=by
 intro pins s σ H Q I h;refine jU (pl:=pl) (thn (U pins s σ H _ I h) fun u O ⟨x,H1,Z,W,a,dx,fs,ex,V,l,q⟩=>?_) ht;subst ex;obtain rfl:u=Value.ref a:=W;refine sC Z V c hm l ?_;exact A3 (first:=[.ref a]) Z.kIn hm.kp (Bo (us:=[.ref a]) (vs:=[.ref a]) F hr hb hd hx Z (.cons rfl .nil) q)
structure Mk(K:af)(C f:aa):Prop where
 makes:vp K C=true
 init:aU K (.ref C) "__init__"=some (some (.ref f))
 fn:oX K (.ref f)=true
 kp:gF K (.ref C)=true
theorem FQ{pins:List (aa×Obj)}{σ:St}{H:Hp}{s:ao}{Q:VK}{us:List ae}{vs:List V}(M:Mk X.K C f)(F:bL X.prog X.w X.K X.mg X.base CX k f fd ps sp)(hr:cZ (k+1) X.A)(hb:Binds X.K fd ps ds)(hd:c9 dvs ds)
  (hx:lH CX X E) (I:Inv X pins σ H s) (r:c9 vs us)
  (h:∀x dx,H x=none->H dx=none->dx≠x->sp (.ref x::(vs++dvs)) (upd (upd H dx (.own x)) x (.ins C dx [])) (fun v H2=>v=.non/\Q (.ref x) H2) E) :
  aX (bA X.prog X.w) X.A (xw (.ref C) us) (EP X pins σ Q) X.xe s:=by
 have hq:=h (s.heap.objs.size+1) s.heap.objs.size (I.hok.fresh (gm _)) (I.hok.fresh (ax _)) (aQ (wD _));have Y:=Inv.made (C:=C) I;have r2:c9 (V.ref (s.heap.objs.size+1)::(vs++dvs)) (Value.ref (s.heap.objs.size+1)::(us++ds)):=.cons rfl (r.append hd);have hl:(Value.ref (s.heap.objs.size+1)::us++ds).length=ps.length:=by
  have e:=r2.length;rw[F.len _ _ _ _ hq]at e;exact e.symm
 refine sI (FM (f:=f) I.kIn M.makes M.init (beq_iff_eq.mp M.fn) (oj (F.run _ X.stack _ _ {Value.ref (s.heap.objs.size+1)::us,[]} (Value.ref (s.heap.objs.size+1)::(us++ds)) _ _ E (hr.make C us [])
  (Y.env0.make C us []) (hb _ (Value.ref (s.heap.objs.size+1)::us) Y.kIn hl) r2 hq) fun r s' Z=>?_))
 cases r with
 |error e=>exact hx pins σ _ _ e s' Y Z
 |ok fl=>
  cases fl with
  |ret u=>
   obtain⟨v,H',U,rv,ev,W⟩:=Y.after Z;subst ev;exact{rv,{V.ref (s.heap.objs.size+1),H',U,rfl,W}}
  |next=>exact cY Z
  |brk=>exact cY Z
  |cont=>exact cY Z
theorem j8(M:Mk X.K C f)(F:bL X.prog X.w X.K X.mg X.base CX k f fd ps sp)(hr:cZ (k+1) X.A)(U:Gl X x)(hm:X.mg x=some (.ref C))(hb:Binds X.K fd ps ds)(hd:c9 dvs ds)(hx:lH CX X E)
  (ha:PA X (e::es) t) (Z:(x==("__debug__":Str))=false:=by decide) (V:cK (e::es) X.env=(false,gf e X.env)::cK es X.env:=by rfl) (Y:(jj pos (cK es X.env)).any (·.1)=false:=by rfl) :
  PE X (.Call (.Name x p) (e::es) [] pos) (Lq C sp dvs E t):=by
 intro pins s σ H Q I h;refine iD (qY I U hm ?_ Z);refine lI (h₀:=X.base) I.ok.mod.kin M.kp (thn (ha pos pins s σ H _ I h) fun us O ⟨vs,H1,W,r,q⟩=>{W.kIn,?_}) V Y;exact FQ M F hr hb hd hx W r q
end
section
variable{X:Cx}{CX:CXT}{k:Nat}{f C:aa}{fd:bX}{ps ks:List Str}{sp:Sp}{E:XK}{x m:Str}{p pos apos kpos:Pos}{e o:cU}{es:List cU}{kws:List OW}{te ta:TE}{t tk:TA}{nm:Option Str}
variable{g:List ae->List ae->List ae}{gV:List V->List V->List V}
end
structure bN(N P:List Str)(sc:mi):Prop where
 kind:sc.kind=.function:=by rfl
 co:sc.isCoroutine=false:=by rfl
 gen:sc.isGenerator=false:=by rfl
 nd:N.Nodup:=by decide +kernel
 pre:N.take P.length=P:=by rfl
 par:∀x∈P,sc.names.lookup x=some .local\/sc.names.lookup x=some .cell:=by decide +kernel
 nofree:∀y∈sc.names,y.2≠.free:=by decide +kernel
theorem xY{kindOf:Str->Option kO}{x:Str}:∀{binds:List (Str×ae)} {m:Str->Option ae},(∀v,(x,v)∉binds)->Fj kindOf binds m x=m x
 | [],_,_=>rfl
 |(n,v)::r,m,h=>by
  unfold Fj;rw[xY fun w hw=>h w (ak _ hw)]
  split
  ·have:x≠n:=by rintro rfl;exact h v aC
   simp[this]
  ·rfl
theorem xZ{kindOf:Str->Option kO}{x:Str}:∀{binds:List (Str×ae)} {m:Str->Option ae},(∀v,(x,v)∉binds)->Fk kindOf binds m x=m x
 | [],_,_=>rfl
 |(n,v)::r,m,h=>by
  unfold Fk;rw[xZ fun w hw=>h w (ak _ hw)]
  split
  ·rfl
  ·have:x≠n:=by rintro rfl;exact h v aC
   simp[this]
theorem x5{kindOf:Str->Option kO}{x:Str}{v:ae}:∀{P:List Str} {vs:List ae} {i:Nat} {m:Str->Option ae},P.Nodup->P[i]?=some x->vs[i]?=some v->kindOf x=some .local ->
  Fj kindOf (P.zip vs) m x=some v
 | [],_,_,_,_,h,_,_=>by simp at h
 |_::_,[],_,_,_,_,h,_=>by simp at h
 |p::P,w::vs,0,m,nd,h1,h2,hk=>by
  simp at h1 h2;subst h1;subst h2;show Fj kindOf ((p,w)::P.zip vs) m p=_;unfold Fj;rw[xY fun v hv=>(cM.mp nd).1 (qj hv).1,if_pos hk];simp
 |p::P,w::vs,i+1,m,nd,h1,h2,hk=>by
  show Fj kindOf ((p,w)::P.zip vs) m x=_;unfold Fj;exact x5 (i:=i) (cM.mp nd).2 (by simpa using h1) (by simpa using h2) hk
theorem x6{kindOf:Str->Option kO}{x:Str}{v:ae}:∀{P:List Str} {vs:List ae} {i:Nat} {m:Str->Option ae},P.Nodup->P[i]?=some x->vs[i]?=some v->kindOf x≠some .local ->
  Fk kindOf (P.zip vs) m x=some v
 | [],_,_,_,_,h,_,_=>by simp at h
 |_::_,[],_,_,_,_,h,_=>by simp at h
 |p::P,w::vs,0,m,nd,h1,h2,hk=>by
  simp at h1 h2;subst h1;subst h2;show Fk kindOf ((p,w)::P.zip vs) m p=_;unfold Fk;rw[xZ fun v hv=>(cM.mp nd).1 (qj hv).1,if_neg hk];simp
 |p::P,w::vs,i+1,m,nd,h1,h2,hk=>by
  show Fk kindOf ((p,w)::P.zip vs) m x=_;unfold Fk;exact x6 (i:=i) (cM.mp nd).2 (by simpa using h1) (by simpa using h2) hk
def start(N:List Str)(vs:List V):St:=vs.map some++cI (N.length-vs.length) none
def uq(CX:CXT)(P:aM)(w:bO)(K:af)(mg:Str->Option ae)(base:cC)(N:List Str)(Y:Str)(Z:mi)(f:aa)(V:ae)(A:cj)(outer:List Env)(s:ao)(H:Hp)(E:XK):Cx where
 prog:=P
 w:=w
 K:=K
 mg:=mg
 base:=base
 A:=A.deeper (uu Y Z s.heap.objs.size f V)
 N:=N
 s₀:=s
 H₀:=H
 env:=uu Y Z s.heap.objs.size f V
 outer:=outer
 stack:=uu Y Z s.heap.objs.size f V::outer
 ex:=[]
 calm:=true
 fn:=fun _=>true
 pn:=[]
 xe:=fun e s'=>aX (bA P w) (A.deeper (uu Y Z s.heap.objs.size f V)) (A4 (uu Y Z s.heap.objs.size f V) e) (fun _ W=>CX outer H s E e W) (fun U W=>CX outer H s E U W) s'
theorem z9{sc:mi}{n:Nat}{x:Str}(h:sc.names.lookup x=some .cell):∃c,(Fl n sc.names []).lookup x=some c:=by
 have q:=oZ sc.names n [] (.inl h);exact Option.isSome_iff_exists.mp q
theorem x8{CX:CXT}{P:aM}{w:bO}{K:af}{mg:Str->Option ae}{base:cC}{N ps:List Str}{Y:Str}{Z:mi}{f:aa}{J:ae}{A:cj}{outer:List Env}{s I:ao}{H:Hp}{E:XK}{us:List ae}{vs:List V}
  (S:bN N ps Z) (hd:A.handled=none) (W:yR P w K mg base A outer s H) (hl:vs.length=ps.length) (r:c9 vs us)
  (x:InCallC s s.heap.objs.size (Fj (uu Y Z s.heap.objs.size f J).kindOf (ps.zip us) fun _=>none) (Fl (s.heap.objs.size+1) Z.names []) (Fk (uu Y Z s.heap.objs.size f J).kindOf (ps.zip us) fun _=>none) I) :
  Inv (uq CX P w K mg base N Y Z f J A outer s H E) [] (start N vs) H I:=by
 have D:ps.length<=N.length:=by have:=congrArg jD S.pre;rw[dH]at this;omega
 obtain⟨h1,tk,rfl,hk⟩:=x.done;have U:∀b:aa,b∉(uq CX P w K mg base N Y Z f J A outer s H E).ex:=fun b z=>absurd (show b∈([]:List aa) from z) (by simp);refine⟨{W.mod,S.kind,rfl,rfl,ax _,fun y z c h1 h2=>?_,fun y hy=>?_,fun y c _ h=>?_,fun _=>hd,Around.frames_deeper W.frames,.inr ⟨rfl,rfl⟩,fun b z=>absurd z (U b),W.bs,W.bsz,fun b _ _=>U b,fun b z=>absurd z (U b),W.funs,W.frf},
  rfl,W.bare,Un.kept hk,{_,x.toInCall.ns,fun i y v h1 h2 g=>?_},fun y c h=>{_,x.cell y c h},W.hok.fresh (ax _),fun y c h=>?_,fun p hp=>absurd (show p∈([]:List (aa×Obj)) from hp) (by simp),W.hok.kept hk,?_⟩
 ·exact name_of_addr x.apart (gy h1) (gy h2)
 ·have hy:Z.names.lookup y=some .cell\/Z.names.lookup y=some .free:=hy
  rcases hy with hy|hy
  ·exact z9 hy
  ·exact absurd rfl (S.nofree _ (gy hy))
 ·exact mj (x.above y c (gy h))
 ·have hi:i<vs.length:=by
   unfold start at h2
   by_cases hi:i<vs.length
   ·exact hi
   ·rw[df (by simpa using hi)]at h2;rw[pS]at h2
    split at h2<;>cases h2
  have ha:vs[i]?=some v:=by
   unfold start at h2;rw[eQ (by simpa using hi),cQ]at h2
   cases e:vs[i]? with
   |none=>rw[e]at h2;cases h2
   |some a=>rw[e]at h2;cases h2;rfl
  obtain⟨u,hu,rv⟩:=r.get ha;have hp:ps[i]?=some y:=by
   rw[<- S.pre,zS (by omega)];exact h1
  have O:ps.Nodup:=by rw[<- S.pre];exact S.nd.sublist (uW _ _)
  refine{u,rv,?_}
  rcases S.par y (cB hp) with k|k
  ·exact .inl {k,x5 O hp hu k}
  ·obtain⟨c,e⟩:=z9 (n:=s.heap.objs.size+1) k;refine .inr {.inl k,c,e,?_};have q:=x.cell y c e;rw[x6 O hp hu (by show Z.names.lookup y≠_;rw[k];decide)]at q;exact q
 ·exact W.hok.fresh (mj (x.above y c (gy h)))
 ·unfold start;show _=N.length;rw[ay,au,kA];omega
theorem Lr{CX:CXT}{P:aM}{w:bO}{K:af}{mg:Str->Option ae}{base:cC}{k:Nat}{f:aa}{name Y:Str}{U:Arguments}{O:List cX}{Z:mi}{dV kV bI pm W ct oc:ae}{an od:Option aa}
  {bG:Array (Option ae)} {N ps:List Str} {sp:Sp} (lk:K.lookup f=some {oc,od,.func (fq name Y U O Z dV kV bI pm an W ct),bG}) (bB:jE K W Y=true) (S:bN N ps Z)
  (len:∀vs H Q E,sp vs H Q E->vs.length=ps.length)
  (g:∀(A:cj) (outer:List Env) (s:ao) (H:Hp) (vs:List V) (Q:VK) (E:XK),cZ k (A.deeper (uu Y Z s.heap.objs.size f W))->sp vs H Q E ->
   ∃t,PSs (uq CX P w K mg base N Y Z f W A outer s H E) O t/\t {nx:=fun _ H'=>Q .non H',rt:=Q} (start N vs) H) :
  bL P w K mg base CX (k+1) f (fq name Y U O Z dV kV bI pm an W ct) ps sp:=by
 refine{len,fun A outer s H args us vs Q E hr e0 hb r bH=>?_};have hl:=len _ _ _ _ bH;have KX:K.In s.heap:=e0.mod.kin.keeps fun b o e=>(e0.bs b o e).1;have bF:s.heap.NoLimit:=e0.mod.nolimit.keeps fun b o e=>(e0.bs b o e).1;have z:∀y∈ps.zip us,Z.names.lookup y.1=some .local\/(Z.names.lookup y.1=some .cell/\((Fl (s.heap.objs.size+1) Z.names []).lookup y.1).isSome=true):=fun⟨n,v⟩ hy=>by
  rcases S.par n (qj hy).1 with q|q
  ·exact .inl q
  ·exact .inr {q,oZ _ _ _ (.inl q)}
 refine Jk hr.depth (KX _ _ lk) rfl S.co S.gen rfl (Bp KX bB) (hb _ _ _ _ ?_);refine Bq S.kind z fun env he s1 x=>?_;subst he;refine{bF.keeps x.toInCall.keep,codeAny_func ?_};obtain⟨t,ht,hq⟩:=g A outer s H vs Q E (hr.deeper _) bH;have I:Inv (uq CX P w K mg base N Y Z f W A outer s H E) [] (start N vs) H s1:=x8 S hr.hd e0 hl r x;refine eK (ht [] s1 (start N vs) H _ I hq) (fun fl s' hs=>?_) fun e s' hs=>hs;have fin:∀{D:St} {H':Hp} {v:V} {u:ae},Inv (uq CX P w K mg base N Y Z f W A outer s H E) [] D H' s'->RelV v u->Q v H'->CE outer P w H s Q u s':=
  fun {D H' v u} J rv q=>⟨v,H',J.os,J.bare,J.base,J.hok,rv,q⟩
 cases fl with
 |ret u=>
  obtain⟨v,D,H',J,rv,q⟩:=hs;exact fin J rv q
 |next=>
  obtain⟨D,H',J,q⟩:=hs;exact fin (v:=V.non) (u:=Value.none) J rfl q
 |brk=>
  obtain⟨_,_,_,q⟩:=hs;exact cY q
 |cont=>
  obtain⟨_,_,_,q⟩:=hs;exact cY q
section
variable{X:Cx}{x:Str}{p pos:Pos}{e:cU}{es:List cU}{t:TA}{id T:String}{r:List V->Hp->VK->Prop}
def tCB(r:List V->Hp->VK->Prop)(t:TA):TE:=fun σ H Q=>t σ H fun vs H1=>r vs H1 Q
theorem cb(hc:jT X (.builtin id) r)(D:Gl X x)(hm:X.mg x=none)(hv:eS x=some (.builtin id))(ha:PA X (e::es) t)(U:x≠"__name__":=by decide)(Z:(x==("__debug__":Str))=false:=by decide)
  (V:cK (e::es) X.env=(false,gf e X.env)::cK es X.env:=by rfl) (Y:(jj pos (cK es X.env)).any (·.1)=false:=by rfl):PE X (.Call (.Name x p) (e::es) [] pos) (tCB r t):=by
 intro pins s σ H Q I h;refine iD (uf I D hm hv ?_ U Z);exact PyProof.Rows.callWith_builtin1 (thn (ha pos pins s σ H _ I h) fun us W ⟨vs,H1,O,r1,J⟩=>hc pins W σ H1 vs us Q O r1 J) V Y
theorem hZ(hc:jT X (.type T) r)(D:Gl X x)(hm:X.mg x=none)(hv:eS x=some (.type T))(ha:PA X (e::es) t)(U:x≠"__name__":=by decide)(Z:(x==("__debug__":Str))=false:=by decide)
  (V:cK (e::es) X.env=(false,gf e X.env)::cK es X.env:=by rfl) (Y:(jj pos (cK es X.env)).any (·.1)=false:=by rfl):PE X (.Call (.Name x p) (e::es) [] pos) (tCB r t):=by
 intro pins s σ H Q I h;refine iD (uf I D hm hv ?_ U Z);exact j7 (thn (ha pos pins s σ H _ I h) fun us W ⟨vs,H1,O,r1,J⟩=>hc pins W σ H1 vs us Q O r1 J) V Y
end
end L2
namespace HT
open PySem PyProof.Rows
def lexLt:List Int->List Int->Bool
 | [],[]=>false
 | [],_::_=>true
 |_::_,[]=>false
 |x::xs,y::ys=>if x=y then lexLt xs ys else decide (x<y)
theorem lexLt_cons(x y:Int)(xs ys:List Int):lexLt (x::xs) (y::ys)=if x=y then lexLt xs ys else decide (x<y):=rfl
theorem nC:lexLt [] []=false:=rfl
theorem lJ(y:Int)(ys:List Int):lexLt [] (y::ys)=true:=rfl
theorem lK(x:Int)(xs:List Int):lexLt (x::xs) []=false:=rfl
theorem wF(A:cj)(s:ao)(a:Int)(t:Tok)(c:Int)(u:Tok):∃e,xy A s (.int a t) (.int c u) e/\(e=true↔a=c):=
 {(a==c),q9 a t c u,by simp}
theorem FR(A:cj)(s:ao)(a:Int)(t:Tok)(c:Int)(u:Tok)(prog:aM)(w:bO)(E:ae->ao->Prop)(Q:ae->ao->Prop)(h:Q (.bool (decide (a<c))) s) :
  aX (bA prog w) A (p8 .Lt (.int a t) (.int c u)) Q E s:=
 (PyProof.Rows.lt_int h:aX (bA prog w) A (c5 .Lt (.int a t) (.int c u)) Q E s)
section
open PySem.SeqAt
open PySem.AutoSeq1 (wpAny_loadPart')
open PySem.MeetsSeq PySem.MeetsSeq2 PySem.MeetsSeq3
theorem xA(l b:aa)(items Z:Array ae)(n n2:Nat)(dd bI:Option aa)(sl bF:Array (Option ae))(ns ms:List Int)(hi:dQ items.toList ns)(hj:dQ Z.toList ms) :
  Meets (ic.«tuple.__lt__» {[.ref l,.ref b],[]})
   (fun _ R s=>s.heap.get? l=some {cls:=.type "tuple",dict:=dd,data:=.seq items n,slots:=sl}/\s.heap.get? b=some {cls:=.type "tuple",dict:=bI,data:=.seq Z n2,slots:=bF} /\
    R (.ok (.ret (.bool (lexLt ns ms)))) s):=
 .of_wp fun prog w A R s h=>by
  obtain⟨hp,g,d,tk,os⟩:=s;obtain⟨hl,hb,h⟩:=h;have f2:=i5;have z1:items.size=ns.length:=by rw[<- hi.length];simp
  have z2:Z.size=ms.length:=by rw[<- hj.length];simp
  wp_walk using dy hl,dy hb,lL _ (fun rest b s'=>b.1=none/\s'=⟨hp,g,d,tk,os⟩/\∃(vs ws:List ae) (V W:List Int),rest=vs.zip ws /\
   dQ vs V/\dQ ws W/\V.length+Z.size=W.length+items.size/\R (.ok (.ret (.bool (lexLt V W)))) ⟨hp,g,d,tk,os⟩) _
  case turn=>
   rintro⟨y,x⟩ rest b s' ⟨H,rfl,vs,ws,V,W,O,z,U,Y,I⟩
   cases z with
   |nil=>rw[uX]at O;cases O
   |cons a t bW=>
    cases U with
    |nil=>rw[t9]at O;cases O
    |cons c u cd=>
     rw[e8]at O;injection O with bH D;injection bH with hy hx;subst hy hx;rw[lexLt_cons]at I;simp only[aS]at Y;obtain⟨e,he,J⟩:=wF A.in1 ⟨hp,g,d,tk,os⟩ a t c u;refine ai (he prog w _ _ ?_)
     cases e with
     |true=>
      rw[if_pos (J.mp rfl)]at I
      wp_walk
      exact{rfl,rfl,_,_,_,_,D,bW,cd,by omega,I}
     |false=>
      rw[if_neg (fun q=>absurd (J.mpr q) aY)]at I;have bG:=FR A.in1 ⟨hp,g,d,tk,os⟩ a t c u prog w
      wp_walk using bG
      exact{_,rfl,by simpa using I}
  case fin=>
   rintro⟨b1,b2⟩ s' ⟨H,rfl,vs,ws,V,W,O,z,U,Y,I⟩;simp only at H;subst H;have hv:lexLt V W=decide (items.size<Z.size):=by
    cases z with
    |nil=>
     cases U with
     |nil=>
      simp only[cy]at Y;rw[nC];exact (decide_eq_false (by omega)).symm
     |cons c u hw=>
      simp only[cy,aS]at Y;rw[lJ];exact (decide_eq_true (by omega)).symm
    |cons a t hv=>
     cases U with
     |nil=>
      simp only[cy,aS]at Y;rw[lK];exact (decide_eq_false (by omega)).symm
     |cons c u hw=>
      rw[e8]at O
      cases O
   rw[hv]at I
   wp_walk
   exact{_,rfl,by simpa[jo] using I}
  case h=>
   exact{rfl,rfl,items.toList,Z.toList,ns,ms,rfl,hi,hj,by omega,h}
end
section
variable{prog:aM}{w:bO}{A:cj}{E:ae->ao->Prop}{s:ao}
theorem lt_tupInts{l b:aa}{items Z:Array ae}{ns ms:List Int}{Q:ae->ao->Prop}(hl:rJ s.heap l items)(hb:rJ s.heap b Z)(hi:dQ items.toList ns)(H:dQ Z.toList ms)
  (hu:A.units<eN) (h:Q (.bool (lexLt ns ms)) s):aX (bA prog w) A (c5 .Lt (.ref l) (.ref b)) Q E s:=by
 obtain⟨⟨cls,dd,data,sl⟩,ho,hc,n,hd⟩:=id hl;obtain⟨⟨I,O,J,U⟩,Y,V,n2,W⟩:=id hb;simp only at hc hd V W;subst hc hd V W;exact kP (op:=.Lt) {_,ho,rfl} {_,Y,rfl} PySem.F.slot_tuple_lt PySem.F.entry_tuple_lt (PySem.F.args_tuple_lt_2 _ _) (xA l b items Z n n2 dd O sl U ns ms hi H)
  {ho,Y,show Value.bool (lexLt ns ms)≠Value.notImplemented/\Q (.bool (lexLt ns ms)) s from{(fun x=>nomatch x),h}} hu
theorem cat_tup{t b:aa}{vs Z:List ae}{Q:ae->ao->Prop}(ht:rJ s.heap t vs.toArray)(hb:rJ s.heap b Z.toArray)(hv:vs≠[])
  (h1:Z=[]->Q (.ref t) s) (h2:Z≠[]->Q (.ref s.heap.objs.size) {s with heap:=s.heap.push {cls:=.type "tuple",data:=.seq (vs++Z).toArray}})
  (hsz:vs.length+Z.length<=aB):aX (bA prog w) A (iy .Add (.ref t) (.ref b)) Q E s:=by
 obtain⟨⟨cls,dd,data,sl⟩,ho,hc,n,hd⟩:=id ht;obtain⟨⟨I,V,J,W⟩,Y,O,n2,U⟩:=id hb;simp only at hc hd O U;subst hc hd O U;have e:vs.toArray++Z.toArray=(vs++Z).toArray:=by simp
 by_cases hw:Z=[]
 ·exact concat_meets {_,ho,rfl} {_,Y,rfl} noFill_tuple_add seq_tuple_add yS x9 (xB _ _)
   (tuple_addW1 t b vs.toArray Z.toArray n n2 dd V sl W (by simpa using hv) (by simp[hw])) {ho,Y,h1 hw}
 ·refine concat_meets {_,ho,rfl} {_,Y,rfl} noFill_tuple_add seq_tuple_add yS x9 (xB _ _)
   (tuple_addW2 t b vs.toArray Z.toArray n n2 dd V sl W (by simpa using hv) (by simpa using hw) (by rw[aF,aF];exact hsz)) {ho,Y,?_}
  rw[e];exact h2 hw
def sIx(n d:Nat):Option Int->Nat
 |none=>d
 |some v=>if v<0 then (v+(n:Int)).toNat else min v.toNat n
theorem sIx_none(n d:Nat):sIx n d none=d:=rfl
theorem sIx_nat(n d k:Nat):sIx n d (some (k:Int))=min k n:=by
 show (if (k:Int)<0 then ((k:Int)+(n:Int)).toNat else min (k:Int).toNat n)=min k n;rw[if_neg (by omega),vt]
theorem Ni(n d:Nat)(hd:d<=n)(o:Option Int):sIx n d o<=n:=by
 cases o with
 |none=>exact hd
 |some v=>
  show (if v<0 then (v+(n:Int)).toNat else min v.toNat n)<=n
  by_cases hv:v<0
  ·rw[if_pos hv];omega
  ·rw[if_neg hv];exact Nat.min_le_right _ _
theorem Cv(v:Int)(n d:Nat):(if v<0 then max (v+(n:Int)) 0 else min v (n:Int))=((sIx n d (some v):Nat):Int):=by
 show (if v<0 then max (v+(n:Int)) 0 else min v (n:Int))=(((if v<0 then (v+(n:Int)).toNat else min v.toNat n):Nat):Int)
 by_cases hv:v<0
 ·simp only[if_pos hv];omega
 ·simp only[if_neg hv];omega
theorem Br(lo hi:Option Int)(n:Nat):kQ lo hi 1 (n:Int)=(((sIx n 0 lo:Nat):Int),((sIx n n hi:Nat):Int)):=by
 have h1:¬((1:Int)<0):=by omega
 unfold kQ;simp only[h1,if_false];refine Prod.ext ?_ ?_
 ·cases lo with
  |none=>rfl
  |some v=>exact Cv v n 0
 ·cases hi with
  |none=>rfl
  |some v=>exact Cv v n n
theorem Bs(i j:Nat):iA (i:Int) (j:Int) 1=j-i:=by
 unfold iA;have h1:(1:Int)>0:=by omega
 simp only[h1,if_true,Int.ediv_one]
 split<;>omega
theorem wG{v:ae}{o:Option Int}{Q:Option Int->ao->Prop}(p:yT v o)(h:Q o s):aX (bA prog w) A (Builtin.Slice.slicePartIndex v) Q E s:=by
 cases p with
 |none=>exact slicePart_none h
 |int i t=>exact slicePart_int h
theorem uv{sl:aa}{V W:ae}{lo hi:Option Int}{n:Nat}{Q:Int×Int×Nat->ao->Prop}(hs:s.heap.IsSliceOf sl V W .none)(pl:yT V lo)(pu:yT W hi)
  (h:Q (((sIx n 0 lo:Nat):Int),1,sIx n n hi-sIx n 0 lo) s):aX (bA prog w) A (tu (.ref sl) (pure (n:Int))) Q E s:=by
 obtain⟨os,Z,U,Y⟩:=id hs;unfold tu Builtin.Slice.sliceFields;refine ai (ai (mB Z Y (x:=V) rfl (ai (mB Z Y (x:=W) rfl (ai (mB Z Y (x:=.none) rfl (aO ?_)))))));refine ai (slicePart_none ?_);show aX _ _ (if ((1:Int)==0)=true then _ else _) _ _ s;rw[if_neg (by decide)];refine ai (wG pl (ai (wG pu (ai (aO ?_)))));show aX _ _ (match kQ lo hi 1 (n:Int) with|(lo,hi)=>pure (lo,(1:Int),iA lo hi 1)) _ _ s;rw[Br lo hi n];show aX _ _ (pure (((sIx n 0 lo:Nat):Int),(1:Int),iA ((sIx n 0 lo:Nat):Int) ((sIx n n hi:Nat):Int) 1)) _ _ s;rw[Bs];exact aO h
theorem FS(xs:Array ae)(i k:Nat):((kL k).filterMap fun (m:Nat)=>xs[((i:Int)+(m:Int)*1).toNat]?).toArray=((xs.toList.drop i).take k).toArray:=by
 have e:(fun (m:Nat)=>xs[((i:Int)+(m:Int)*1).toNat]?)=fun m=>xs[i+m]?:=by
  funext m
  have:((i:Int)+(m:Int)*1).toNat=i+m:=by omega
  rw[this]
 rw[e];have:=pick_run xs i k;rw[List.filterMap_map]at this;have Z:((fun x=>xs[x]?) ∘ fun x=>i+x)=fun m=>xs[i+m]?:=rfl;rw[Z]at this;rw[this]
theorem getItem_tuple_cut{t sl:aa}{items:Array ae}{J O:ae}{lo hi:Option Int}{Q:ae->ao->Prop}(ht:rJ s.heap t items)(hs:s.heap.IsSliceOf sl J O .none)(pl:yT J lo)(pu:yT O hi)
  (hw:¬(sIx items.size 0 lo=0/\sIx items.size items.size hi=items.size))
  (h:Q (.ref s.heap.objs.size) {s with heap:=s.heap.push {cls:=.type "tuple",data:=.seq ((items.toList.drop (sIx items.size 0 lo)).take (sIx items.size items.size hi-sIx items.size 0 lo)).toArray}})
  (hsz:items.size<=aB):aX (bA prog w) A (uY (.ref t) (.ref sl)) Q E s:=by
 have Z:sizeOk (.seq ((items.toList.drop (sIx items.size 0 lo)).take (sIx items.size items.size hi-sIx items.size 0 lo)).toArray):=by
  show ((items.toList.drop (sIx items.size 0 lo)).take (sIx items.size items.size hi-sIx items.size 0 lo)).toArray.size<=aB;rw[aF,dH,kM,fY];omega
 have H:sIx items.size items.size hi<=items.size:=Ni _ _ (ax _) hi;obtain⟨os,V,Y,I⟩:=id hs;have W:s.TypeIs (.ref sl) "slice":=⟨os,V,Y⟩;unfold uY
 try with_reducible refine dU ?_
 first|refine ai (aO ?_)|skip
 refine ai (wpAny_sequenceKey ht.typeIs (by decide) ?_);refine ai (wpAny_callSpecial?_slot (name:=jY "__getitem__") ht.typeIs jt
  (lN jt ht.typeIs entry_tuple_getitem ?_ (args_tuple_getitem _ _)))
 show aX _ _ (Builtin.Tuple.tupleItemsOf (.ref t) >>= _) _ _ s;refine ai (tupleItemsOf_ ht ?_);refine ai (FT W ?_);rw[if_pos (by decide)];refine ai (uv hs pl pu ?_);have U:¬((((sIx items.size 0 lo:Nat):Int)==0&&(1:Int)==1&&(sIx items.size items.size hi-sIx items.size 0 lo)==items.size)=true):=by
  intro q;rw[kN,kN]at q;have z:((sIx items.size 0 lo:Nat):Int)=0:=eq_of_beq q.1.1;have D:sIx items.size items.size hi-sIx items.size 0 lo=items.size:=eq_of_beq q.2;exact hw {by omega,by omega}
 show aX _ _ (if (((sIx items.size 0 lo:Nat):Int)==0&&(1:Int)==1&&(sIx items.size items.size hi-sIx items.size 0 lo)==items.size)=true then _ else _) _ _ s;rw[if_neg U,FS]
 first
  |exact ai (m:=iE _) (i9 (aO ⟨_,rfl,aO h⟩) Z)
  |exact ai (m:=iE _) (i9 (ai (aO (aO ⟨_,rfl,aO h⟩))) Z)
  |exact ai (ai (m:=iE _) (i9 (aO (aO ⟨_,rfl,aO h⟩)) Z))
  |exact ai (ai (m:=iE _) (i9 (aO ⟨_,rfl,aO h⟩) Z))
end
end HT
namespace L2
open PySem PySem.Spec PyProof.Rows
abbrev TO:=St->Hp->(Option Int->Hp->Prop)->Prop
def PO(X:Cx)(e:Option cU)(t:TO):Prop:=
 ∀(pins:List (aa×Obj)) (s:ao) (σ:St) (H:Hp) (Q:Option Int->Hp->Prop),Inv X pins σ H s->t σ H Q ->
  aX (bA X.prog X.w) X.A (evalPart e X.env) (fun u s'=>∃o H',Inv X pins σ H' s'/\yT u o/\Q o H') X.xe s
def JH:TO:=fun _ H Q=>Q none H
def tPart(t:TE):TO:=fun σ H Q=>t σ H fun x H1=>∃i,x=.int i/\Q (some i) H1
theorem intsAre_of{ns:List Int}:∀{us:List ae},c9 (ns.map V.int) us->dQ us ns:=by
 induction ns with
 |nil=>intro us r;rw[uZ]at r;cases r;exact .nil
 |cons n ns Z=>
  intro us r;rw[cg]at r
  cases r with
  |cons r1 r2=>
   obtain⟨t,e⟩:=r1;subst e;exact .cons n t (Z r2)
section
variable{X:Cx}{e:cU}{te:TE}{lo hi:Option cU}{tl th:TO}{pos p2:Pos}
theorem rg:PO X none JH:=by
 intro pins s σ H Q I h;rw[evalPart_none];exact aO {none,H,I,.none,h}
theorem rh(h:PE X e te):PO X (some e) (tPart te):=by
 intro pins s σ H Q I hw;rw[evalPart_some];refine thn (h pins s σ H _ I hw) fun u W ⟨x,H1,Z,r1,Y⟩=>?_;obtain⟨i,rfl,q⟩:=Y;obtain⟨t,rfl⟩:=r1;exact{some i,H1,Z,.int i t,q}
def SlR(X:Cx)(r:V->Option Int->Option Int->Hp->VK->Prop):Prop:=
 ∀(pins:List (aa×Obj)) (s:ao) (σ:St) (H:Hp) (x:V) (v Z Y:ae) (lo hi:Option Int) (sl:aa) (Q:VK),Inv X pins σ H s->RelV x v->s.heap.IsSliceOf sl Z Y .none->yT Z lo->yT Y hi->r x lo hi H Q ->
  ∃T id,Nj (.type T) "__getitem__"=pure (some (.builtin id))/\s.TypeIs v T/\aX (bA X.prog X.w) X.A (uY v (.ref sl)) (EP X pins σ Q) X.xe s
def tSl(r:V->Option Int->Option Int->Hp->VK->Prop)(te:TE)(tl th:TO):TE:=fun σ H Q=>te σ H fun x H1=>tl σ H1 fun l H2=>th σ H2 fun u Z=>r x l u Z Q
theorem om{r:V->Option Int->Option Int->Hp->VK->Prop}(hr:SlR X r)(he:PE X e te)(hl:PO X lo tl)(hu:PO X hi th):PE X (.Subscript e (.Slice lo hi none p2) pos) (tSl r te tl th):=by
 intro pins s σ H Q I h;refine Nl (thn (he pins s σ H _ I h) fun v O ⟨x,H1,g,r1,q1⟩=>?_);refine wpAny_Slice (thn (hl pins O σ H1 _ g q1) fun W s2 ⟨l,H2,D,pl,J⟩=>thn (hu pins s2 σ H2 _ D J) fun Y Z ⟨u,U,I3,pu,q3⟩=>?_);rw[evalPart_none];refine aO ?_;have I4:Inv X pins σ U {Z with heap:=Z.heap.push {cls:=.type "slice",data:=.fields #[W,Y,.none]}}:=I3.kept (t':=Z.toks) fun b ob q=>aJ _ q;obtain⟨T,id,hT,ht,z⟩:=hr pins {Z with heap:=Z.heap.push {cls:=.type "slice",data:=.fields #[W,Y,.none]}} σ U x v W Y l u Z.heap.objs.size Q I4 r1 (OX ..) pl pu q3;show aX (bA X.prog X.w) X.A (EB e (.Slice lo hi none p2) v (.ref Z.heap.objs.size)) (EP X pins σ Q) X.xe {Z with heap:=Z.heap.push {cls:=.type "slice",data:=.fields #[W,Y,.none]}};exact tail_any (ops:=[.ref Z.heap.objs.size,v]) ht hT z (by with_unfolding_all rfl)
def nF(xs:List V)(lo hi:Option Int):List V:=(xs.drop (HT.sIx xs.length 0 lo)).take (HT.sIx xs.length xs.length hi-HT.sIx xs.length 0 lo)
theorem qm(xs:List V)(lo hi:Option Int):(nF xs lo hi).length<=xs.length:=by
 unfold nF;rw[dH,kM];omega
def rSlT(K:af):V->Option Int->Option Int->Hp->VK->Prop:=fun x lo hi H Q=>∃a xs,x=.ref a/\SqT K H a xs /\
 ¬(HT.sIx xs.length 0 lo=0/\HT.sIx xs.length xs.length hi=xs.length)/\∀p,H p=none->Q (.ref p) (upd H p (.tup (nF xs lo hi)))
theorem Nm:SlR X (rSlT X.K):=by
 intro pins s σ H x v O U lo hi sl Q I V hs pl pu h;obtain⟨a,xs,rfl,hx,hw,q⟩:=h
 cases V;obtain⟨Y,r,ht,W⟩:=I.tuple hx;have Z:Y.toArray.size=xs.length:=by rw[aF];exact r.length.symm
 refine{"tuple",_,jt.lookup,ht.typeIs,?_};refine HT.getItem_tuple_cut ht hs pl pu (by rw[Z];exact hw) ?_ (by rw[Z];exact W);rw[Z];refine{.ref s.heap.objs.size,_,I.laid (t':=s.toks) (o:=.tup (nF xs lo hi)) (fun b ob q=>aJ _ q) (ax _) ?_,rfl,q _ (I.hok.fresh (ax _))};exact{dB (qm xs lo hi) W,_,(r.drop (HT.sIx xs.length 0 lo)).take (HT.sIx xs.length xs.length hi-HT.sIx xs.length 0 lo),FU _ _}
def rCatT(K:af):R2:=fun x y H Q=>∃a b xs ys,x=.ref a/\y=.ref b/\SqT K H a xs/\SqT K H b ys/\xs≠[]/\xs.length+ys.length<=aB /\
 (ys=[]->Q (.ref a) H)/\(ys≠[]->∀p,H p=none->Q (.ref p) (upd H p (.tup (xs++ys))))
theorem c9.nil_iff{xs:List V}{us:List ae}(r:c9 xs us):us=[]↔xs=[]:=by
 cases r with
 |nil=>simp
 |cons _ _=>simp
theorem Cw:OpR X (iy .Add) (rCatT X.K):=by
 intro pins s σ H x y v u Q I W V h;obtain⟨a,b,xs,ys,rfl,rfl,ha,hb,hx,Z,D,O⟩:=h
 cases W
 cases V;obtain⟨U,r1,J,_⟩:=I.tuple ha;obtain⟨Y,r2,p2,_⟩:=I.tuple hb;refine HT.cat_tup J p2 (fun z=>hx (r1.nil_iff.mp z)) (fun z=>{.ref a,H,I,rfl,D (r2.nil_iff.mp z)}) (fun z=>?_) (by rw[<- r1.length,<- r2.length];exact Z);refine{.ref s.heap.objs.size,_,I.laid (t':=s.toks) (o:=.tup (xs++ys)) (fun b ob q=>aJ _ q) (ax _) ?_,rfl,O (fun w=>z (r2.nil_iff.mpr w)) _ (I.hok.fresh (ax _))};exact{by rw[ay];exact Z,_,r1.append r2,FU _ _}
end
def ixN(n:Nat)(i:Int):Option Nat:=if 0<=i then (if i<n then some i.toNat else none) else if -(n:Int)<=i then some (i+n).toNat else none
def atI{Z:Type}(xs:List Z)(i:Int):Option Z:=(ixN xs.length i).bind fun j=>xs[j]?
theorem yU{n:Nat}{i:Int}{j:Nat}(h:ixN n i=some j):seqIndex? i n=some j/\j<n/\-(n:Int)<=i/\i<n:=by
 unfold ixN at h
 by_cases h0:0<=i
 ·rw[if_pos h0]at h
  by_cases h1:i<n
  ·rw[if_pos h1]at h;have e:i.toNat=j:=dP h;exact{by rw[JI h0 h1,e],by omega,by omega,h1}
  ·rw[if_neg h1]at h;cases h
 ·rw[if_neg h0]at h
  by_cases h1:-(n:Int)<=i
  ·rw[if_pos h1]at h;have e:(i+n).toNat=j:=dP h;exact{by rw[FV (by omega) h1,e],by omega,h1,by omega}
  ·rw[if_neg h1]at h;cases h
theorem yV{Z:Type}{xs:List Z}{i:Int}{v:Z}(h:atI xs i=some v):∃j,seqIndex? i xs.length=some j/\xs[j]?=some v/\j<xs.length/\-(xs.length:Int)<=i/\i<xs.length:=by
 unfold atI at h
 cases e:ixN xs.length i with
 |none=>rw[e]at h;cases h
 |some j=>
  rw[e]at h;obtain⟨h1,h2,Y,W⟩:=yU e;exact⟨j,h1,h,h2,Y,W⟩
theorem je{Z:Type}{xs:List Z}{j:Nat}{v:Z}(h:xs[j]?=some v):atI xs (j:Int)=some v:=by
 have Y:j<xs.length:=(aG.mp h).1;have e:ixN xs.length (j:Int)=some j:=by
  unfold ixN;rw[if_pos (by omega),if_pos (by omega)];simp
 unfold atI;rw[e];exact h
def JJ(b:cU):Prop:=∀o i,zT b false o i=operate [o,i] (uY o i)
def IxR(X:Cx)(r:R2):Prop:=
 ∀(value Z:cU) (pins:List (aa×Obj)) (s:ao) (σ:St) (H:Hp) (x y:V) (v u:ae) (Q:VK),Inv X pins σ H s->RelV x v->RelV y u->r x y H Q ->
  zT Z false v u=operate [v,u] (uY v u)->aX (bA X.prog X.w) X.A (EB value Z v u) (EP X pins σ Q) X.xe s
def MtR(X:Cx)(id:String)(r:V->List V->Hp->VK->Prop):Prop:=
 ∀(pins:List (aa×Obj)) (s:ao) (σ:St) (H:Hp) (x:V) (xs:List V) (v:ae) (us:List ae) (Q:VK),Inv X pins σ H s->RelV x v->c9 xs us->r x xs H Q ->
  aX (bA X.prog X.w) X.A (xw (.builtin id) (v::us)) (EP X pins σ Q) X.xe s
section
variable{X:Cx}{a b:cU}{ta tb:TE}{pos:Pos}
theorem bY{r:R2}(hr:IxR X r)(ha:PE X a ta)(hb:PE X b tb)(hs:JJ b):PE X (.Subscript a b pos) (tOp r ta tb):=by
 intro pins s σ H Q I h;exact Nl (Nd ha hb I h fun v u s2 x y H2 W Y Z q=>hr a b pins s2 σ H2 x y v u Q W Y Z q (hs _ _))
inductive RIxL(K:af)(x y:V)(H:Hp)(Q:VK):Prop where
 |mk(p:aa)(xs:List V)(i:Int)(v:V)(hx:x=.ref p)(hy:y=.int i)(s:SqL K H p xs)(e:atI xs i=some v)(q:Q v H):RIxL K x y H Q
def Nn(K:af):R2:=fun x y H Q=>RIxL K x y H Q
inductive RIxT(K:af)(x y:V)(H:Hp)(Q:VK):Prop where
 |mk(p:aa)(xs:List V)(i:Int)(v:V)(hx:x=.ref p)(hy:y=.int i)(s:SqT K H p xs)(e:atI xs i=some v)(q:Q v H):RIxT K x y H Q
def rIxT(K:af):R2:=fun x y H Q=>RIxT K x y H Q
def rIxS:R2:=fun x y H Q=>∃z i c,x=.str z/\y=.int i/\z.length<=aB/\atI z.cps.toList i=some c/\Q (.str {#[c]}) H
theorem dO:IxR X (Nn X.K):=by
 intro value Y pins s σ H x y v u Q I D J h hs;obtain⟨p,xs,i,z,rfl,rfl,hq,he,q⟩:=h
 cases D;obtain⟨t,rfl⟩:=J;obtain⟨W,r,pl,hz⟩:=I.list hq;obtain⟨j,h1,h2,h3,g,O⟩:=yV he;obtain⟨w,U,V⟩:=r.get h2;have hl:=r.length;have hn:=uk;have fin:EP X pins σ Q w s:=⟨z,H,I,V,q⟩
 by_cases h0:0<=i
 ·have Z:i.toNat=j:=by
   rw[JI h0 O]at h1;exact dP h1
  exact item_listR pl.isList h0 (by omega) (by rw[Z];simpa using U) fin hs
 ·have Z:(i+(W.toArray.size:Int)).toNat=j:=by
   rw[FV (by omega) g]at h1;rw[aF,<- hl];exact dP h1
  exact FW (x:=w) pl.isList.typeIs OY.lookup
   (wpAny_getItem_list_neg (Q:=fun r s'=>r=w/\EP X pins σ Q r s') pl.isList (by omega) (by rw[aF]<;>omega) (by omega) (by rw[Z];simpa using U) ⟨rfl,fin⟩) hs
theorem cA:IxR X (rIxT X.K):=by
 intro value Z pins s σ H x y v u Q I O V h hs;obtain⟨p,xs,i,z,rfl,rfl,hq,J,q⟩:=h
 cases O;obtain⟨t,rfl⟩:=V;obtain⟨U,r,pl,hz⟩:=I.tuple hq;obtain⟨j,h1,h2,h3,g,D⟩:=yV J;obtain⟨w,W,Y⟩:=r.get h2;have hl:=r.length;have hn:=uk;have fin:EP X pins σ Q w s:=⟨z,H,I,Y,q⟩;exact FW (x:=w) pl.typeIs slot_tuple_getitem.lookup
  (getItem_tuple (j:=j) (Q:=fun r s'=>r=w/\EP X pins σ Q r s') pl (by omega) (by omega) (by rw[aF,<- hl];exact h1) (by simpa using W) ⟨rfl,fin⟩) hs
theorem FX:IxR X rIxS:=by
 intro value Z pins s σ H x y v u Q I V W h hs;obtain⟨z,i,c,rfl,rfl,g,J,q⟩:=h;obtain⟨t,rfl⟩:=V;obtain⟨t',rfl⟩:=W;obtain⟨j,h1,h2,h3,U,Y⟩:=yV J;have hl:z.cps.toList.length=z.length:=by simp[Str.length]
 rw[hl]at h1 U Y;have D:=uk;exact tail_any (typeIs_str s z t) slot_str_getitem.lookup (getItem_str (c:=c) (by
  have e1:decide (i < -(2^63:Int))=false:=decide_eq_false (by omega);have O:decide (i≥2^63)=false:=decide_eq_false (by omega);rw[e1,O,Bool.or_false]) (by rw[h1];simpa using h2) {.str {#[c]},H,I.tok _,{_,rfl},q}) hs
theorem Bt(Z:List ae)(n j:Nat)(u:ae):dh (·.setIfInBounds j u) {cls:=.type "list",data:=.seq Z.toArray n}={cls:=.type "list",data:=.seq (Z.set j u).toArray n}:=by
 simp[dh]
theorem Inv.lst{pins:List (aa×Obj)}{σ:St}{H:Hp}{s:ao}{p:aa}{xs:List V}(I:Inv X pins σ H s)(h:H p=some (.lst xs)) :
  ∃(Z:List ae) (n:Nat),c9 xs Z/\s.heap.get? p=some {cls:=.type "list",data:=.seq Z.toArray n}/\xs.length<=aB:=by
 obtain⟨z,Z,n,r,e⟩:=I.hok p _ h;exact⟨Z,n,r,e,z⟩
theorem Inv.lstUpd{pins:List (aa×Obj)}{σ:St}{H:Hp}{s:ao}{p:aa}{xs ys:List V}{Z its':List ae}{n Y:Nat}{f:Obj->Obj}(I:Inv X pins σ H s)(h:H p=some (.lst xs))
  (ho:s.heap.get? p=some {cls:=.type "list",data:=.seq Z.toArray n}) (W:f {cls:=.type "list",data:=.seq Z.toArray n}={cls:=.type "list",data:=.seq its'.toArray Y}) (r:c9 ys its') (U:ys.length<=aB) (t:Nat) :
  Inv X pins σ (upd H p (.lst ys)) {s with heap:=s.heap.update p f,toks:=t}:=by
 have e:(s.heap.update p f).get? p=some {cls:=.type "list",data:=.seq its'.toArray Y}:=by
  rw[rj f ho (by rw[W]<;>rfl),W]
 refine I.write (x:=p) (e:=p) (by rw[h];trivial) (.inl rfl) (fun b u hb q=>(fZ _ _ (gi hb)).trans q) {_,e} ?_;exact⟨U,its',Y,r,e⟩
def rSetL:V->V->V->Hp->(Hp->Prop)->Prop:=fun o i v H Q=>∃p xs k j,o=.ref p/\i=.int k/\H p=some (.lst xs)/\ixN xs.length k=some j/\Q (upd H p (.lst (xs.set j v)))
theorem tw:PSet X rSetL:=by
 intro pins s σ H o i v g iv u Q I O D rv h;obtain⟨p,xs,k,j,rfl,rfl,hp,J,q⟩:=h
 cases O;obtain⟨t,rfl⟩:=D;obtain⟨Z,n,r,ho,z⟩:=I.lst hp;obtain⟨h1,h2,U,Y⟩:=yU J;have hl:=r.length;have hn:=uk;have V:Inv X pins σ (upd H p (.lst (xs.set j v))) {s with heap:=s.heap.update p (dh (·.setIfInBounds j u))}:=
  I.lstUpd hp ho (Bt Z n j u) (r.set rv j) (by rw[JK];exact z) s.toks
 by_cases h0:0<=k
 ·have hk:k.toNat=j:=by
   rw[JI h0 Y]at h1;exact dP h1
  exact PySem.W.ki_setAt ho h0 (by omega) (by rw[aF,<- hl];exact Y) (by rw[hk];exact{_,V,q})
 ·have hk:(k+(Z.toArray.size:Int)).toNat=j:=by
   rw[FV (by omega) U]at h1;rw[aF,<- hl];exact dP h1
  exact PySem.W.ki_setBack ho (by omega) (by rw[aF,<- hl];exact U) (by omega) (by rw[hk];exact{_,V,q})
theorem yW(lo hi:Option Int)(n:Nat):(mC lo hi none n).1=((HT.sIx n 0 lo:Nat):Int)/\(mC lo hi none n).2.1=((HT.sIx n n hi:Nat):Int)/\(mC lo hi none n).2.2=1:=by
 refine{?_,?_,rfl}
 ·cases lo with
  |none=>simp[mC,HT.sIx]
  |some i=>
   simp only[mC,HT.sIx,Fn,show (1:Int)>0 by decide,if_true]
   by_cases h:i<0
   ·simp only[h,if_true]<;>omega
   ·simp only[h,if_false]<;>omega
 ·cases hi with
  |none=>simp[mC,HT.sIx]
  |some i=>
   simp only[mC,HT.sIx,Fn,show (1:Int)>0 by decide,if_true]
   by_cases h:i<0
   ·simp only[h,if_true]<;>omega
   ·simp only[h,if_false]<;>omega
theorem xC(Z:List ae)(lo hi:Option Int):slicePick Z.toArray lo hi none=((Z.drop (HT.sIx Z.length 0 lo)).take (HT.sIx Z.length Z.length hi-HT.sIx Z.length 0 lo)).toArray:=by
 obtain⟨h1,h2,Y⟩:=yW lo hi Z.toArray.size;unfold slicePick;rw[h1,h2,Y];simp only[sliceRange_one,pick_run,aF]<;>rfl
def rSlL(K:af):V->Option Int->Option Int->Hp->VK->Prop:=fun x lo hi H Q=>∃a xs,x=.ref a/\SqL K H a xs/\∀p,H p=none->Q (.ref p) (upd H p (.lst (nF xs lo hi)))
theorem tD:SlR X (rSlL X.K):=by
 intro pins s σ H x v O U lo hi sl Q I Y hs pl pu h;obtain⟨a,xs,rfl,hx,q⟩:=h
 cases Y;obtain⟨W,r,ht,V⟩:=I.list hx;have Z:=r.length;refine{"list",_,OY.lookup,ht.isList.typeIs,?_};refine wpAny_getItem_list_slice ht.isList hs pl pu .none (by simp) ?_ (by rw[aF]<;>omega);rw[xC,<- Z];refine{.ref s.heap.objs.size,_,I.laid (t':=s.toks) (o:=.lst (nF xs lo hi)) (fun b ob q=>aJ _ q) (ax _) ?_,rfl,q _ (I.hok.fresh (ax _))};exact{dB (qm xs lo hi) V,_,0,(r.drop (HT.sIx xs.length 0 lo)).take (HT.sIx xs.length xs.length hi-HT.sIx xs.length 0 lo),cz _ rfl}
def tE:V->Bool
 |.non=>true
 |.bl _=>true
 |.int _=>true
 |.str _=>true
 |_=>false
def eqV:V->V->Bool
 |.non,.non=>true
 |.bl a,.bl b=>a==b
 |.bl a,.int b=>(if a then 1 else 0)==b
 |.int a,.bl b=>a==(if b then 1 else 0)
 |.int a,.int b=>a==b
 |.str a,.str b=>a==b
 |_,_=>false
theorem Np{A:cj}{s:ao}{y x:V}{u v:ae}(Y:RelV y u)(Z:RelV x v)(U:tE y=true)(W:tE x=true):xy A s u v (eqV y x):=by
 cases y with
 |non=>
  cases Y
  cases x with
  |non=>cases Z;exact Bu _
  |bl b=>cases Z;exact SeqAt.EqAt.none_bool b
  |int b=>obtain⟨t,rfl⟩:=Z;exact SeqAt.EqAt.none_int b t
  |str b=>obtain⟨t,rfl⟩:=Z;exact SeqAt.EqAt.none_str b t
  |_=>exact absurd (show false=true from W) aY
 |bl a=>
  cases Y
  cases x with
  |non=>cases Z;exact SeqAt.EqAt.bool_none a
  |bl b=>cases Z;exact SeqAt.EqAt.bool_bool a b
  |int b=>obtain⟨t,rfl⟩:=Z;exact SeqAt.EqAt.bool_int a b t
  |str b=>obtain⟨t,rfl⟩:=Z;exact SeqAt.EqAt.bool_str a b t
  |_=>exact absurd (show false=true from W) aY
 |int a=>
  obtain⟨t',rfl⟩:=Y
  cases x with
  |non=>cases Z;exact SeqAt.EqAt.int_none a t'
  |bl b=>cases Z;exact SeqAt.EqAt.int_bool a t' b
  |int b=>obtain⟨t,rfl⟩:=Z;exact q9 a t' b t
  |str b=>obtain⟨t,rfl⟩:=Z;exact zP a t' b t
  |_=>exact absurd (show false=true from W) aY
 |str a=>
  obtain⟨t',rfl⟩:=Y
  cases x with
  |non=>cases Z;exact SeqAt.EqAt.str_none a t'
  |bl b=>cases Z;exact SeqAt.EqAt.str_bool a t' b
  |int b=>obtain⟨t,rfl⟩:=Z;exact zQ a t' b t
  |str b=>obtain⟨t,rfl⟩:=Z;exact SeqAt.EqAt.str_str a t' b t
  |_=>exact absurd (show false=true from W) aY
 |_=>exact absurd (show false=true from U) aY
def eqU(x:V)(u:ae):Bool:=match u with
 |.none=>eqV .non x
 |.bool b=>eqV (.bl b) x
 |.int i _=>eqV (.int i) x
 |.str z _=>eqV (.str z) x
 |_=>false
theorem FY{x y:V}{u:ae}(r:RelV y u)(f:tE y=true):eqU x u=eqV y x:=by
 cases y with
 |non=>cases r;rfl
 |bl b=>cases r;rfl
 |int i=>obtain⟨t,rfl⟩:=r;rfl
 |str z=>obtain⟨t,rfl⟩:=r;rfl
 |_=>exact absurd (show false=true from f) aY
theorem yX{x:V}:∀{xs:List V} {us:List ae},c9 xs us->xs.all tE=true->us.any (eqU x)=xs.any fun y=>eqV y x
 |_,_,.nil,_=>rfl
 |y::xs,u::us,.cons r t,f=>by
  rw[Nq,kN]at f;rw[kR,kR,FY r f.1,yX t f.2]
theorem wH{A:cj}{s:ao}{x:V}{v:ae}(Y:RelV x v)(Z:tE x=true):∀{xs:List V} {us:List ae},c9 xs us->xs.all tE=true->∀u∈us,xy A s u v (eqU x u)
 |_,_,.nil,_=>fun u hu=>by cases hu
 |y::xs,u::us,.cons r t,f=>fun W hu=>by
  rw[Nq,kN]at f
  rcases ar.mp hu with rfl|hu
  ·rw[FY r f.1];exact Np r Y f.1 Z
  ·exact wH Y Z t f.2 W hu
def inV(x:V)(xs:List V):Bool:=xs.any fun y=>eqV y x
def rIn(K:af)(Z:Bool):R2:=fun x y H Q=>∃p xs,y=.ref p/\(SqL K H p xs\/SqT K H p xs)/\tE x=true/\xs.all tE=true/\Q (.bl (if Z then !inV x xs else inV x xs)) H
theorem EC:OpR X (c5 .In) (rIn X.K false):=by
 intro pins s σ H x y v u Q I Y V h;obtain⟨p,xs,rfl,hq,W,fs,q⟩:=h
 cases V
 rcases hq with hq|hq
 ·obtain⟨Z,r,pl,U⟩:=I.list hq;refine SeqAt.in_listAt (eqU x) pl.isList (fun w hw=>wH Y W r fs w (by simpa using hw)) {.bl _,H,I,rfl,?_};rw[show Z.toArray.any (eqU x)=Z.any (eqU x) by simp,yX r fs];exact q
 ·obtain⟨Z,r,pl,U⟩:=I.tuple hq;refine SeqAt.in_tupleAt (eqU x) pl (fun w hw=>wH Y W r fs w (by simpa using hw)) {.bl _,H,I,rfl,?_};rw[show Z.toArray.any (eqU x)=Z.any (eqU x) by simp,yX r fs];exact q
theorem ig:jT X (.builtin "len") (fun xs H Q=>∃p ys,xs=[.ref p]/\(SqL X.K H p ys\/SqT X.K H p ys)/\Q (.int ys.length) H):=by
 intro pins s σ H xs us Q I r h;obtain⟨p,ys,rfl,hq,q⟩:=h;obtain⟨u,rfl,V⟩:=vals1 r
 cases V;have O:=uk
 rcases hq with hq|hq
 ·obtain⟨Y,W,pl,U⟩:=I.list hq;have Z:=W.length;exact Calls.call_len_list pl.isList (by simp only[aF]<;>omega) {.int ys.length,H,I.tok _,{s.toks+1,by rw[aF,Z]},q}
 ·obtain⟨Y,W,pl,U⟩:=I.tuple hq;have Z:=W.length;exact len_tuple pl (by simp only[aF]<;>omega) {.int ys.length,H,I.tok _,{s.toks+1,by rw[aF,Z]},q}
theorem o4:jT X (.type "list") (fun xs H Q=>∃p ys,xs=[.ref p]/\(SqL X.K H p ys\/SqT X.K H p ys)/\∀l,H l=none->Q (.ref l) (upd H l (.lst ys))):=by
 intro pins s σ H xs us Q I r h;obtain⟨p,ys,rfl,hq,q⟩:=h;obtain⟨u,rfl,O⟩:=vals1 r
 cases O;have fin:∀(Z:List ae),c9 ys Z->ys.length<=aB->∀(h':cC) (Y:Nat),(∀b o',s.heap.get? b=some o'->h'.get? b=some o') ->
   h'.get? s.heap.objs.size=some {cls:=.type "list",dict:=none,data:=.seq Z.toArray Y,slots:=#[]}->EP X pins σ Q (.ref s.heap.objs.size) {s with heap:=h'}:=fun Z W V h' Y kp e=>
  {.ref s.heap.objs.size,_,I.laid (t':=s.toks) kp (ax _) (show eP X.prog X.w _ h' _ (.lst ys) from⟨V,Z,Y,W,e⟩),rfl,q _ (I.hok.fresh (ax _))}
 rcases hq with hq|hq
 ·obtain⟨Z,W,pl,V⟩:=I.list hq;have U:=W.length;obtain⟨o,ho,hc,n,hd⟩:=pl.isList;exact call_list_seq p (.inl rfl) ho hc hd (fun h' Y kp e=>fin Z W V h' Y kp e) (by simp only[aF]<;>omega)
 ·obtain⟨Z,W,pl,V⟩:=I.tuple hq;have U:=W.length;obtain⟨o,ho,hc,n,hd⟩:=pl;exact call_list_seq p (.inr rfl) ho hc hd (fun h' Y kp e=>fin Z W V h' Y kp e) (by simp only[aF]<;>omega)
theorem xE:jT X (.type "tuple") (fun xs H Q=>∃p ys,xs=[.ref p]/\((SqL X.K H p ys/\∀l,H l=none->Q (.ref l) (upd H l (.tup ys)))\/(SqT X.K H p ys/\Q (.ref p) H))):=by
 intro pins s σ H xs us Q I r h;obtain⟨p,ys,rfl,h⟩:=h;obtain⟨u,rfl,J⟩:=vals1 r
 cases J
 rcases h with⟨hq,q⟩|⟨hq,q⟩
 ·obtain⟨Z,Y,pl,W⟩:=I.list hq;have U:=Y.length;refine call_tuple_list pl.isList (fun h' kp=>?_) (by simp only[aF]<;>omega);have V:Inv X pins σ H {s with heap:=h'}:=I.kept (t':=s.toks) kp;have O:Inv X pins σ (upd H h'.objs.size (.tup ys)) {s with heap:=h'.push {cls:=.type "tuple",data:=.seq Z.toArray}}:=
   V.laid (t':=s.toks) (fun b o e=>aJ _ e) (ax _) (show eP X.prog X.w _ _ _ (.tup ys) from{W,Z,Y,FU _ _})
  exact{.ref h'.objs.size,_,O,rfl,q _ (V.hok.fresh (ax _))}
 ·obtain⟨Z,Y,pl,W⟩:=I.tuple hq;exact call_tuple_same pl {.ref p,H,I,rfl,q}
def tyV(K:af)(T:String)(x:V)(H:Hp):Prop:=match x with
 |.str _=>T="str"
 |.int _=>T="int"
 |.ref p=>(T="list"/\∃xs,SqL K H p xs)\/(T="tuple"/\∃o,K.lookup p=some o/\o.cls=.type "tuple"/\o.dict=none) \/
   (T="dict"/\((∃kvs,H p=some (.dK kvs))\/∃kvs,H p=some (.dT kvs)))\/(T="set"/\∃S n,H p=some (.set S n))
 |_=>False
theorem FZ{pins:List (aa×Obj)}{σ:St}{H:Hp}{s:ao}{T:String}{x:V}{v:ae}(I:Inv X pins σ H s)(r:RelV x v)(ty:tyV X.K T x H) :
  s.TypeIs v T/\∀a,v=.ref a->∃ob,s.heap.get? a=some ob/\ob.dict=none:=by
 cases x with
 |str z=>
  obtain⟨t,rfl⟩:=r
  cases (show T="str" from ty);exact{typeIs_str s z t,fun _ e=>nomatch e}
 |int i=>
  obtain⟨t,rfl⟩:=r
  cases (show T="int" from ty);exact{typeIs_int s i t,fun _ e=>nomatch e}
 |ref p=>
  cases r
  rcases ty with⟨rfl,xs,hq⟩|⟨rfl,o,hk,hc,hd⟩|⟨rfl,hk⟩|⟨rfl,S,n,hk⟩
  ·obtain⟨Y,_,pl,_⟩:=I.list hq;refine{pl.isList.typeIs,fun a e=>?_}
   cases e;obtain⟨o,n,e,c,hd,_⟩:=pl;exact⟨o,e,hd⟩
  ·refine{{o,I.kIn p o hk,hc},fun a e=>?_}
   cases e;exact{o,I.kIn _ o hk,hd}
  ·have z:∃o,s.heap.get? p=some o/\o.ExactDict:=by
    rcases hk with⟨kvs,hk⟩|⟨kvs,hk⟩
    ·obtain⟨_,_,_,_,o,_,_,e,ex,_⟩:=I.hok p _ hk;exact⟨o,e,ex⟩
    ·obtain⟨_,_,_,_,o,_,_,e,ex,_⟩:=I.hok p _ hk;exact⟨o,e,ex⟩
   obtain⟨o,e,ex⟩:=z;refine{⟨o,e,ex.1⟩,fun a Z=>?_}
   cases Z;exact⟨o,e,ex.2.1⟩
  ·obtain⟨o,_,_,_,e,ex,_⟩:=I.hok p _ hk;refine{⟨o,e,ex.1⟩,fun a Z=>?_}
   cases Z;exact⟨o,e,ex.2.1⟩
 |_=>exact cY ty
def tBM0(K:af)(T:String)(r:V->List V->Hp->VK->Prop)(to:TE):TE:=fun σ H Q=>to σ H fun x H1=>tyV K T x H1/\r x [] H1 Q
def tBM(K:af)(T:String)(r:V->List V->Hp->VK->Prop)(to:TE)(t:TA):TE:=fun σ H Q=>to σ H fun x H1=>tyV K T x H1/\t σ H1 fun xs H2=>r x xs H2 Q
variable{o e:cU}{es:List cU}{to:TE}{t:TA}{name:Str}{apos cpos:Pos}{T id:String}{r:V->List V->Hp->VK->Prop}
theorem Nr(O:PlainAttrs T)(slot:Slot T name id)(W:typeOf (.builtin id)=pure (.type "method_descriptor"))(hm:MtR X id r)(ho:PE X o to)
  (Y:me o name X.env (gf o X.env)=gf o X.env:=by rfl) (Z:(apos.endLine==cpos.line)=true:=by rfl):PE X (.Call (.Attribute o name apos) [] [] cpos) (tBM0 X.K T r to):=by
 intro pins s σ H Q I h;refine Fo Y Z (thn (ho pins s σ H _ I h) fun v U ⟨x,H1,V,r1,ty,J⟩=>?_);obtain⟨h1,h2⟩:=FZ V r1 ty;exact{T,id,O,slot,W,h1,h2,pY rfl (Cy (hm pins U σ H1 x [] v [] Q V r1 .nil J))}
theorem pT(z:PlainAttrs T)(slot:Slot T name id)(U:typeOf (.builtin id)=pure (.type "method_descriptor"))(hm:MtR X id r)(ho:PE X o to)(ha:PA X (e::es) t)
  (W:me o name X.env (gf o X.env)=gf o X.env:=by rfl)
  (V:((jj cpos (cK (e::es) X.env)).all (fun x=>!x.1)&&(oY cpos (jm [] X.env)).all (fun x=>x.1.isSome)
  &&decide ((e::es).length+([]:List OW).length+(if ([]:List OW).isEmpty then 0 else 1)<30))=true:=by rfl)
  (Y:(apos.endLine==cpos.line)=true:=by rfl) (hs:cK (e::es) X.env=(false,gf e X.env)::cK es X.env:=by rfl) (Z:(jj cpos (cK es X.env)).any (·.1)=false:=by rfl) :
  PE X (.Call (.Attribute o name apos) (e::es) [] cpos) (tBM X.K T r to t):=by
 intro pins s σ H Q I h;refine wpAny_Call_method_late W V Y rfl (thn (ho pins s σ H _ I h) fun v D ⟨x,H1,J,r1,ty,q1⟩=>?_);obtain⟨h1,h2⟩:=FZ J r1 ty;refine{T,id,z,slot,U,h1,h2,?_};have O:=ha cpos pins D σ H1 _ J q1;rw[hs]at O |-;refine pY (by show (false||(jj cpos (cK es X.env)).any (·.1))=false;rw[Z]<;>rfl) (Bv ?_);exact thn O fun us s2 ⟨vs,H2,g,r2,q2⟩=>hm pins s2 σ H2 x vs v us Q g r1 r2 q2
end
def MtM(X:Cx)(id:String)(r:V->List V->Hp->VK->Prop):Prop:=
 ∀(pins:List (aa×Obj)) (s:ao) (σ:St) (H:Hp) (x:V) (xs:List V) (v:ae) (us:List ae) (Q:VK),Inv X pins σ H s->RelV x v->c9 xs us->r x xs H Q ->
  aX (bA X.prog X.w) X.A (xw (.builtin id) (v::us)) (EP X pins σ Q) X.xe s
theorem c9.one:∀{x:V} {us:List ae},c9 [x] us->∃u,us=[u]/\RelV x u
 |_,_,.cons r .nil=>{_,rfl,r}
theorem c9.two:∀{x y:V} {us:List ae},c9 [x,y] us->∃u v,us=[u,v]/\RelV x u/\RelV y v
 |_,_,_,.cons r (.cons q .nil)=>{_,_,rfl,r,q}
theorem c9.zero:∀{us:List ae},c9 [] us->us=[]
 |_,.nil=>rfl
theorem c9.dropLast{xs:List V}{us:List ae}(h:c9 xs us):c9 xs.dropLast us.dropLast:=by
 induction h with
 |nil=>exact .nil
 |cons r t Z=>
  cases t with
  |nil=>exact .nil
  |cons q t'=>exact .cons r Z
theorem c9.eraseIdx:∀{xs:List V} {us:List ae} (i:Nat),c9 xs us->c9 (xs.eraseIdx i) (us.eraseIdx i)
 |_,_,_,.nil=>.nil
 |_,_,0,.cons _ t=>t
 |_,_,i+1,.cons r t=>.cons r (c9.eraseIdx i t)
theorem c9.reverse{xs:List V}{us:List ae}(h:c9 xs us):c9 xs.reverse us.reverse:=by
 induction h with
 |nil=>exact .nil
 |cons r t Z=>rw[F0,F0];exact c9.append Z (.cons r .nil)
theorem Bw{Y:Type}(l:List Y):l.eraseIdx (l.length-1)=l.dropLast:=by
 induction l with
 |nil=>rfl
 |cons a r Z=>
  cases r with
  |nil=>rfl
  |cons b r=>
   have e:(a::b::r).length-1=((b::r).length-1)+1:=by
    have h1:(a::b::r).length=r.length+2:=rfl;have h2:(b::r).length=r.length+1:=rfl;omega
   rw[e,List.eraseIdx_cons_succ,Z]
   all_goals rfl
theorem ya{Z:Type}:∀(l:List Z) (i:Nat),(l.eraseIdx i).length<=l.length
 | [],_=>ax _
 |_::_,0=>gm _
 |_::r,i+1=>Nat.succ_le_succ (ya r i)
section
variable{X:Cx}{pins:List (aa×Obj)}{σ:St}{H:Hp}{s:ao}{l b:aa}{xs ys zs:List V}
theorem Inv.lset{Z its':List ae}{n:Nat}{f:Array ae->Array ae}{t':Nat}(I:Inv X pins σ H s)(V:H l=some (.lst xs))
  (e:s.heap.get? l=some {cls:=.type "list",data:=.seq Z.toArray n}) (W:f Z.toArray=its'.toArray) (hv:c9 ys its') (Y:ys.length<=aB) :
  Inv X pins σ (upd H l (.lst ys)) {s with heap:=s.heap.update l (dh f),toks:=t'}:=by
 have q:=PySem.IsL.update e f;rw[W]at q;refine I.write (x:=l) (e:=l) (by rw[V];exact trivial) (.inl rfl) (fun U u hb hu=>(fZ s.heap (dh f) (gi hb)).trans hu) {_,q} ?_;exact{Y,its',_,hv,q}
theorem Inv.lnew{Z:List ae}{t':Nat}(I:Inv X pins σ H s)(hv:c9 ys Z)(Y:ys.length<=aB) :
  Inv X pins σ (upd H s.heap.objs.size (.lst ys)) {s with heap:=s.heap.push {cls:=.type "list",data:=.seq Z.toArray},toks:=t'}:=
 I.laid (fun _ _ q=>aJ _ q) (ax _) {Y,Z,0,hv,cz _ rfl}
theorem Inv.fresh(I:Inv X pins σ H s):H s.heap.objs.size=none:=I.hok.fresh (ax _)
theorem Inv.lstM(I:Inv X pins σ H s)(Y:H l=some (.lst xs)):xs.length<=aB/\∃(Z:List ae) (n:Nat),c9 xs Z/\xs.length=Z.length/\s.heap.get? l=some {cls:=.type "list",data:=.seq Z.toArray n}:=by
 obtain⟨z,Z,n,r,e⟩:=I.hok l _ Y;exact⟨z,Z,n,r,r.length,e⟩
theorem F3{n:Nat}(h:n<=aB):lC n=false:=by
 unfold lC;exact decide_eq_false (by omega)
end
section
variable{X:Cx}
inductive AppI(x:V)(vs:List V)(H:Hp)(Q:VK):Prop where
 |mk(l:aa)(xs:List V)(y:V)(hx:x=.ref l)(hv:vs=[y])(h:H l=some (.lst xs))(n:xs.length<aB)(q:Q .non (upd H l (.lst (xs++[y])))):AppI x vs H Q
def JL:V->List V->Hp->VK->Prop:=fun x vs H Q=>AppI x vs H Q
theorem iO:MtM X "list.append" JL:=by
 intro pins s σ H x vs v us Q I W rv h;obtain⟨l,xs,y,rfl,rfl,Y,V,q⟩:=h
 cases W;obtain⟨u,rfl,ru⟩:=rv.one;obtain⟨z,Z,n,r,hl,e⟩:=I.lstM Y;refine sJ F.slot_list_append {_,e,rfl} F.entry_list_append (F.args_list_append_2 _ _) (PySem.list_append l Z.toArray n u (by rw[aF];omega)) {e,?_};refine{.non,_,I.lset (its':=Z++[u]) Y e (by simp) (r.append (.cons ru .nil)) ?_,rfl,q};rw[ay,Bx];omega
def JM:V->List V->Hp->VK->Prop:=fun x vs H Q=>∃l b xs zs,x=.ref l/\vs=[.ref b]/\H l=some (.lst xs)/\H b=some (.lst zs)/\xs.length+zs.length<=aB/\Q .non (upd H l (.lst (xs++zs)))
theorem ED:MtM X "list.extend" JM:=by
 intro pins s σ H x vs v us Q I U rv h;obtain⟨l,b,xs,zs,rfl,rfl,V,D,hz,q⟩:=h
 cases U;obtain⟨u,rfl,ru⟩:=rv.one
 cases ru;obtain⟨z,Y,n,r,hl,e⟩:=I.lstM V;obtain⟨g,Z,n2,r2,O,J⟩:=I.lstM D;have hsz:Y.toArray.size+Z.toArray.size<=aB:=by rw[aF,aF];omega
 have W:¬(!Y.toArray.isEmpty&&lC (Y.toArray.size+Z.toArray.size))=true:=by
  rw[F3 hsz,Ls];exact aY
 refine sJ F.slot_list_extend {_,e,rfl} F.entry_list_extend (F.args_list_extend_2 _ _)
  (AutoSeq1.list_extend_list_list_0 l Y.toArray n b Z.toArray n2 W (by rw[aF];omega) (by omega)) {e,J,?_}
 refine{.non,_,I.lset (its':=Y++Z) V e (by simp) (r.append r2) ?_,rfl,q};rw[ay];omega
def rPop:V->List V->Hp->VK->Prop:=fun x vs H Q=>∃l xs y,x=.ref l/\vs=[]/\H l=some (.lst xs)/\xs[xs.length-1]?=some y/\Q y (upd H l (.lst xs.dropLast))
theorem Nt:MtM X "list.pop" rPop:=by
 intro pins s σ H x vs v us Q I U rv h;obtain⟨l,xs,y,rfl,rfl,V,hy,q⟩:=h
 cases U;have Y:=rv.zero;subst Y;obtain⟨z,Z,n,r,hl,e⟩:=I.lstM V;obtain⟨u,hu,ru⟩:=r.get hy;have W:Z.toArray[Z.toArray.size-1]?=some u:=by
  show Z.toArray[Z.length-1]?=some u;rw[<- qp,<- hl];exact hu
 refine sJ F.slot_list_pop {_,e,rfl} F.entry_list_pop (F.args_list_pop_1 _) (MeetsSeq.list_pop_last l Z.toArray n u W (by rw[aF];omega)) {e,?_};refine{y,_,I.lset (its':=Z.dropLast) V e ?_ r.dropLast ?_,ru,q}
 ·show Z.toArray.eraseIdxIfInBounds (Z.toArray.size-1)=Z.dropLast.toArray;rw[aF,vv,Bw]
 ·rw[kU];omega
def Nu:V->List V->Hp->VK->Prop:=fun x vs H Q=>∃l xs i k y,x=.ref l/\vs=[.int i]/\H l=some (.lst xs)/\-(2^63)<=i/\i<2^63/\seqIndex? i xs.length=some k/\xs[k]?=some y/\Q y (upd H l (.lst (xs.eraseIdx k)))
theorem F4:MtM X "list.pop" Nu:=by
 intro pins s σ H x vs v us Q I V rv h;obtain⟨l,xs,i,k,y,rfl,rfl,W,h1,h2,hk,hy,q⟩:=h
 cases V;obtain⟨u,rfl,ru⟩:=rv.one;obtain⟨t,rfl⟩:=ru;obtain⟨z,Z,n,r,hl,e⟩:=I.lstM W;obtain⟨w,hw,Y⟩:=r.get hy;refine sJ F.slot_list_pop {_,e,rfl} F.entry_list_pop (F.args_list_pop_2 _ _)
  (MeetsSeq.list_pop_at l Z.toArray n i t k w (fitsIndex_both h1 h2) (by rw[aF,<- hl];exact hk) (by rw[<- qp];exact hw) (by rw[aF];omega)) {e,?_}
 refine{y,_,I.lset (its':=Z.eraseIdx k) W e ?_ (r.eraseIdx k) ?_,Y,q}
 ·show Z.toArray.eraseIdxIfInBounds k=(Z.eraseIdx k).toArray;rw[vv]
 ·have:=ya xs k;omega
def rCat:R2:=fun x y H Q=>∃l b xs zs,x=.ref l/\y=.ref b/\H l=some (.lst xs)/\H b=some (.lst zs)/\xs.length+zs.length<=aB/\∀p,H p=none->Q (.ref p) (upd H p (.lst (xs++zs)))
theorem By:OpR X (iy .Add) rCat:=by
 intro pins s σ H x y v u Q I V W h;obtain⟨l,b,xs,zs,rfl,rfl,g,D,hz,q⟩:=h
 cases V
 cases W;obtain⟨z,Y,n,r,hl,e⟩:=I.lstM g;obtain⟨z2,Z,n2,r2,O,J⟩:=I.lstM D;refine PySem.P.add_list e J ?_ (by rw[aF,aF];omega);have U:Y.toArray++Z.toArray=(Y++Z).toArray:=by simp
 rw[U];exact{.ref _,_,I.lnew (t':=s.toks) (r.append r2) (by rw[ay];omega),rfl,q _ I.fresh}
end
section
variable{prog:aM}{w:bO}{A:cj}{E:ae->ao->Prop}{s:ao}
end
section
variable{X:Cx}
end
end L2
namespace Att
open PySem PySem.W PySem.Calls PyProof.Rows
theorem ints_of_wellAll{P:Params}{h:cC}:∀(ns:List Int) (vs:List ae),WellAll P h vs (ns.map WData.int)->dQ vs ns:=by
 intro ns
 induction ns with
 |nil=>
  intro vs w;rw[uZ]at w
  cases w;exact .nil
 |cons n ns Z=>
  intro vs w;rw[cg]at w
  cases w with
  |cons a b=>
   cases a;exact .cons _ _ (Z _ b)
theorem script_of{l:OpenLaw}{n:Nat}(z:l.most=some n){P:Params}{h:cC}{args:List WData}{Z:List ae}
  (Y:l.row.toRowW.claim.pre args=true) (I:WellAll P h Z args) :
  ∃a vs ns,Z=[Value.ref a]/\args=[WData.list (ns.map WData.int)]/\h.get? a=some {cls:=.type "list",data:=.seq vs.toArray}/\dQ vs ns/\ns.length<=n:=by
 have J:WShape.hasAll [] args [.list .int]=true:=(pre_splitW Y).1;have hc:l.pre.holds [] {args:=args}=true:=(pre_splitW Y).2;obtain⟨d,r,rfl,h1,h2⟩:=hasAllW_cons J;obtain rfl:=hasAllW_nil h2;obtain⟨xs,rfl,h3⟩:=hasW_list h1;obtain⟨ns,rfl⟩:=items_int h3;have V:ns.length<=n:=by
  unfold OpenLaw.pre at hc;have O:(WTm.not (.lt (.lit (.int (n:Int))) (.len (.arg 0)))).holds [] {args:=[.list (ns.map .int)]}=true:=by
   have O:=(holds_andW hc).1;rw[z]at O;exact O
  have U:=condW_of O (w_not (w_lt w_lit (w_len_list (w_arg rfl))));rw[au]at U;refine Nat.le_of_not_lt fun q=>?_;have H:(n:Int)<((ns.length:Nat):Int):=by omega
  first
   |(rw[decide_eq_true H]at U;exact absurd U (by decide))
   |(simp at U;omega)
 cases I with
 |cons g D=>
  cases D
  cases g with
  |list ho W=>exact{_,_,ns,rfl,rfl,ho,ints_of_wellAll ns _ W,V}
theorem post_true(l:OpenLaw)(args:List WData):l.row.toRowW.claim.post args (.bool true) args=true:=
 postW_of (r:=l.row.toRowW) (X:=(true==true))
  (show OZ [] (.bool true) .bool=true by first|rfl|decide|simp[OZ,WShape.arms,WShape.armsAll])
  (show (WTm.eq .res (.lit (.bool true))).value [] {args:=args,res:=some (.bool true),after:=args}=some (.bool (true==true)) from w_eq_bool (w_res rfl) w_lit) rfl
section
variable{prog:aM}{w:bO}{A:cj}{E:ae->ao->Prop}{s:ao}{K:Frag}
end
end Att
namespace L2
open PySem PySem.Spec PyProof.Rows
theorem yb:∀{vs:List ae} {ns:List Int},dQ vs ns->c9 (ns.map V.int) vs
 |_,_,.nil=>.nil
 |_,_,.cons n t h=>.cons ⟨t,rfl⟩ (yb h)
def Only(H:Hp):Prop:=∀b,H b=none\/∃o xs,H b=some (.frz o (.lst xs))
theorem Gf{P:aM}{w:bO}{K:af}{mg mb:Str->Option ae}{CX:CXT}{k:Nat}{fa a:aa}{fd:bX}{x:Str}{sp:Sp}{Z:ao}{vs:List ae}{ns:List Int}
  (KX:K.In Z.heap) (g:Z.heap.Ns bD mg) (hb:Z.heap.Ns M0 mb) (cr:∀x:Str,x≠"__name__"->mb x=eS x) (cx:Z.heap.NoLimit) (hg:Z.gens=#[])
  (ha:Z.heap.get? a=some {cls:=.type "list",data:=.seq vs.toArray}) (hi:dQ vs ns) (hl:ns.length<=aB) (hr:cZ k xH)
  (F:∀base:cC,K.In base->base.Ns bD mg->bL P w K mg base CX k fa fd [x] sp) (O:∀(s:ao) (u:ae),uV s fd {[u],[]} [(x,u)])
  (cp:∀H:Hp,Only H->SqL K H a (ns.map V.int)->sp [.ref a] H (fun v _=>v=.bl true) fun _ _ _=>False)
  (ce:∀H e s',CX [] H Z (fun _ _ _=>False) e s'->False) :
  oh (bA P w) xH (.call (.ref fa) {[.ref a],[]}) (fun r s'=>r=.ok (.ret (.bool true))/\OldK Z.heap s'.heap/\s'.os=Z.os/\p6 s'.gens) Z:=by
 have rv:=yb hi;have I:=hi.length
 -- from an abstract heap in which nothing but the script may be tracked
 have U:∀H:Hp,Only H->SqL K H a (ns.map V.int)->HOk P w H Z.heap->(∀b,H b≠none->b=a)->(H a≠none->K.lookup a=none) ->
   oh (bA P w) xH (.call (.ref fa) {[.ref a],[]}) (fun r s'=>r=.ok (.ret (.bool true))/\OldK Z.heap s'.heap/\s'.os=Z.os/\p6 s'.gens) Z:=by
  intro H hO hS hok hA hK;have Y:∀{b:aa} {o:Obj},Z.heap.get? b=some o->H b=none->(yI Z.heap H).get? b=some o:=fun e n=>Fy e n;have ci:∀{b:aa} {o:Obj} {es:Array DictEntry} {ep:Nat},Z.heap.get? b=some o->o.data=.dict es ep->H b=none:=fun {b o es ep} e d=>by
   cases q:H b with
   |none=>rfl
   |some u=>
    have e':b=a:=hA b (by rw[q];simp);subst e';rw[ha]at e;cases e;have d':Data.seq vs.toArray _=Data.dict es ep:=d
    cases d'
  have W:∀{b:aa} {m:Str->Option ae},Z.heap.Ns b m->(yI Z.heap H).Ns b m:=fun {b m} ⟨o,es,ep,e,d,r⟩=>{o,es,ep,Y e (ci e d),d,r};have J:K.In (yI Z.heap H):=fun b o e=>Y (KX b o e) (by
   cases q:H b with
   |none=>rfl
   |some u=>
    have e':b=a:=hA b (by rw[q];simp);subst e';rw[hK (by rw[q];simp)]at e;cases e)
  have hM:Mod K mg (yI Z.heap H):={J,W g,{mb,W hb,cr},let ⟨mc,h1,h2⟩:=cx;{mc,W h1,h2}};have e0:yR P w K mg (yI Z.heap H) xH [] Z H:={rfl,hM,fun b o e=>Jt e,Bh (En _ _),trivial,fun b hb=>absurd (show b∈([]:List aa) from hb) (by simp),hok,.of_eq hg};refine oj ((F _ J (W g)).run xH [] Z H {[.ref a],[]} [.ref a] [.ref a] _ _ hr e0 (O Z (.ref a)) (.cons rfl .nil) (cp H hO hS)) fun r s' h=>?_
  cases r with
  |error e=>exact (ce H e s' h).elim
  |ok fl=>
   cases fl with
   |next=>exact cY h
   |brk=>exact cY h
   |cont=>exact cY h
   |ret u=>
    obtain⟨v,H',os,bare,un,cv,r',q⟩:=h;have q':v=.bl true:=q;subst q';obtain rfl:u=Value.bool true:=r';refine{rfl,OldK.of_keep fun b o e=>?_,os,bare}
    cases q:H b with
    |none=>exact un.keep b o e q (by intro z;exact absurd (show b∈([]:List aa) from z) (by simp)) (by simp)
    |some u=>
     rcases hO b with z|⟨ob,xs,z⟩
     ·rw[q]at z;cases z
     ·have z2:=un.frzs b ob _ z;obtain⟨e1,_⟩:=hok b _ z;obtain⟨e2,_⟩:=cv b _ z2;rw[e]at e1;cases e1;exact e2
 cases hk:K.lookup a with
 |some o=>
  -- the script is one of the module's own objects
  have e:=KX a o hk;rw[ha]at e
  cases e;refine U (fun _=>none) (fun _=>.inl rfl) (.inr {_,vs.toArray,_,hk,rfl,rfl,rfl,by rw[aF,I];exact hl,by simpa using rv}) (fun b u z=>by have D:(none:Option HO)=some u:=z;cases D) (fun b z=>absurd rfl z) fun z=>absurd rfl z
 |none=>
  refine U (fun b=>if b=a then some (.frz {cls:=.type "list",data:=.seq vs.toArray} (.lst (ns.map V.int))) else none) (fun b=>?_) (.inl (.inr {{cls:=.type "list",data:=.seq vs.toArray},if_pos rfl})) (fun b u z=>?_) (fun b z=>?_) fun _=>hk
  ·by_cases hb:b=a
   ·exact .inr {_,_,if_pos hb}
   ·exact .inl (if_neg hb)
  ·by_cases hb:b=a
   ·have D:=(if_pos hb).symm.trans z
    cases D;subst hb;exact{ha,by rw[au];exact hl,vs,_,rv,ha}
   ·have D:=(if_neg hb).symm.trans z
    cases D
  ·by_cases hb:b=a
   ·exact hb
   ·exact absurd (if_neg hb) z
def e9(s:cX)(j:Nat):cX:=match s with
 |.ClassDef _ _ _ Z _ _ _ _ _ _ _=>Z.getD j (.Pass {0,0,0,0})
 |_=>.Pass {0,0,0,0}
def kZ(s:cX):Arguments:=match s with
 |.FunctionDef _ a _ _ _ _ _ _ _ _=>a
 |_=>{posonlyargs:=[],args:=[],vararg:=none,kwonlyargs:=[],kw_defaults:=[],kwarg:=none,defaults:=[]}
def jf(s:cX):List cX:=match s with
 |.FunctionDef _ _ b _ _ _ _ _ _ _=>b
 |_=>[]
def aL(s:cX):mi:=match s with
 |.FunctionDef _ _ _ _ _ _ sc _ _ _=>sc
 |_=>{kind:=.function,names:=[],isGenerator:=false,isCoroutine:=false}
abbrev CX0:CXT:=fun _ _ _ _ _ _=>False
abbrev E0:XK:=fun _ _ _=>False
theorem bC{X:Cx}:lH CX0 X E0:=fun _ _ _ _ _ _ _ h=>h.elim
structure Fun(K:af)(x qual:Str)(st:cX)(f:aa)(fd:bX):Prop where
 ex:∃(oc:ae) (od:Option aa) (kV doc pm:ae) (an:Option aa) (cdv ct:ae) (osl:Array (Option ae)),
  fd=fq x qual (kZ st) (jf st) (aL st) .none kV doc pm an cdv ct/\K.lookup f=some {oc,od,.func fd,osl}/\jE K cdv qual=true
 kp:gF K (.ref f)=true
section
variable{P:aM}{w:bO}{K:af}{mg:Str->Option ae}{base:cC}
theorem Fun.ok{x Z:Str}{st:cX}{f:aa}{fd:bX}{N ps:List Str}{k:Nat}{sp:Sp}(F:Fun K x Z st f fd)(S:bN N ps (aL st))(len:∀vs H Q E,sp vs H Q E->vs.length=ps.length)
  (W:∀(Y:ae) (A:cj) (outer:List Env) (s:ao) (H:Hp) (vs:List V) (Q:VK) (E:XK),cZ k (A.deeper (uu Z (aL st) s.heap.objs.size f Y))->sp vs H Q E ->
   ∃t,PSs (uq CX0 P w K mg base N Z (aL st) f Y A outer s H E).nox (jf st) t/\t {nx:=fun _ H'=>Q .non H',rt:=Q} (start N vs) H):bL P w K mg base CX0 (k+1) f fd ps sp:=by
 obtain⟨oc,od,kV,D,z,g,Y,ct,J,rfl,I,U⟩:=F.ex;refine Lr I U S len fun A outer s H vs Q E hr O=>?_;obtain⟨t,h,q⟩:=W Y A outer s H vs Q E hr O;exact⟨t,h.nox,q⟩
theorem Fun.binds{x Z:Str}{st:cX}{f:aa}{fd:bX}{ps:List Str}(F:Fun K x Z st f fd)
  (h:∀(kV Y V:ae) (U:Option aa) (W ct:ae) (us:List ae),us.length=ps.length->Bn (fq x Z (kZ st) (jf st) (aL st) .none kV Y V U W ct) {us,[]}=pure (ps.zip us)):Binds K fd ps []:=by
 obtain⟨H,od,kV,Y,V,U,W,ct,O,rfl,I,J⟩:=F.ex;exact .all (h kV Y V U W ct)
theorem Gh{x Z:Str}{st:cX}{f:aa}{J:ae}{od O:Option aa}{V:Array (Option ae)}{kV W U Y ct:ae}(l:K.lookup f=some {J,od,.func (fq x Z (kZ st) (jf st) (aL st) .none kV W U O Y ct),V})
  (c:jE K Y Z=true) (k:gF K (.ref f)=true):Fun K x Z st f (fq x Z (kZ st) (jf st) (aL st) .none kV W U O Y ct):={⟨J,od,kV,W,U,O,Y,ct,V,rfl,l,c⟩,k}
end
theorem mO{A:cj}{k:Nat}(hr:cZ k A):A.units+1<eN:=jF (Fp (by decide:1<=64) _) hr.units
section
variable{X:Cx}
theorem pv(i:Nat){x:Str}{pos:Pos}(Y:X.N[i]?=some x:=by rfl)(hv:Vis X.env.scope x:=by first|exact Or.inl rfl|exact Or.inr (Or.inl rfl)|exact Or.inr (Or.inr rfl))(hd:(x==("__debug__":Str))=false:=by decide)
  (Z:(x==("__classdict__":Str))=false:=by decide):PE X (.Name x pos) (Jv i):=M3 Y hv hd Z
end
theorem eE{A B:Prop}(h:B):if false=true then A else B:=by
 rw[if_neg aY];exact h
theorem gG{A B:Prop}(h:A):if true=true then A else B:=by
 rw[if_pos rfl];exact h
theorem gC{c A B:Prop}[Decidable c](h1:c->A)(h2:¬c->B):if c then A else B:=by
 by_cases h:c
 ·rw[if_pos h];exact h1 h
 ·rw[if_neg h];exact h2 h
def bh(H H':Hp):Prop:=∀b o,H b=some o->H' b=some o
theorem bh.refl(H:Hp):bh H H:=fun _ _ h=>h
theorem bh.trans{H H1 H2:Hp}(a:bh H H1)(b:bh H1 H2):bh H H2:=fun c o h=>b c o (a c o h)
theorem bh.free{H H':Hp}(e:bh H H'){l:aa}(h:H' l=Option.none):H l=Option.none:=by
 cases q:H l with
 |none=>rfl
 |some o=>
  rw[e l o q]at h
  cases h
section
variable{κ:Type}[DecidableEq κ]
def jQ(kvs:List (κ×V))(k:κ):Option V:=(kvs.find? fun Z=>decide (Z.1=k)).map (·.2)
def iW(kvs:List (κ×V))(k:κ)(v:V):List (κ×V):=
 if (kvs.any fun Z=>decide (Z.1=k))=true then kvs.map (fun Z=>if Z.1=k then (Z.1,v) else Z) else kvs++[(k,v)]
theorem qq{p:κ×V}{r:List (κ×V)}{k:κ}(e:p.1=k):jQ (p::r) k=some p.2:=by simp[jQ,jy,e]
theorem qv{p:κ×V}{r:List (κ×V)}{k:κ}(e:¬p.1=k):jQ (p::r) k=jQ r k:=by simp[jQ,jy,e]
theorem kC(k:κ):∀kvs:List (κ×V),(kvs.any fun Z=>decide (Z.1=k))=(jQ kvs k).isSome
 | []=>rfl
 |p::r=>by
  rw[kR]
  by_cases e:p.1=k
  ·simp only[qq e,decide_eq_true e,Bool.true_or,Option.isSome_some]
  ·rw[qv e,decide_eq_false e,Bool.false_or];exact kC k r
theorem mP(kvs:List (κ×V))(k:κ)(v:V):(iW kvs k v).length<=kvs.length+1:=by
 unfold iW
 split
 ·rw[au];omega
 ·rw[ay,aS,cy];omega
theorem Aa{kvs:List (κ×V)}{k:κ}(v:V)(h:jQ kvs k=none):iW kvs k v=kvs++[(k,v)]:=by
 unfold iW;rw[kC,h];exact if_neg (by decide)
theorem rH.isSome_eq{o:Option V}{u:Option ae}(r:rH o u):o.isSome=u.isSome:=by
 cases o with
 |none=>cases u with
  |none=>rfl
  |some _=>exact (show False from r).elim
 |some _=>cases u with
  |none=>exact (show False from r).elim
  |some _=>rfl
theorem KV.val{kvs:List (κ×V)}{vs:List (κ×ae)}(r:KV kvs vs)(k:κ):rH (jQ kvs k) (p9 vs k):=by
 unfold KV at r
 induction r with
 |nil=>exact True.intro
 |@cons p q ps qs h t Y=>
  obtain⟨h1,h2⟩:=h
  by_cases e:p.1=k
  ·have Z:q.1=k:=h1.symm.trans e;have b:p9 (q::qs) k=some q.2:=by simp[p9,jy,Z]
   rw[qq e,b];exact h2
  ·have Z:¬q.1=k:=fun z=>e (h1.trans z);have b:p9 (q::qs) k=p9 qs k:=by simp[p9,jy,Z]
   rw[qv e,b];exact Y
theorem KV.any{kvs:List (κ×V)}{vs:List (κ×ae)}(r:KV kvs vs)(k:κ):(kvs.any fun Z=>decide (Z.1=k))=vs.any fun Z=>decide (Z.1=k):=by
 unfold KV at r
 induction r with
 |nil=>rfl
 |cons h t Y=>rw[kR,kR,Y,h.1]
theorem KV.repl{kvs:List (κ×V)}{vs:List (κ×ae)}(r:KV kvs vs)(k:κ){y:V}{u:ae}(W:RelV y u) :
  KV (kvs.map fun Z=>if Z.1=k then (Z.1,y) else Z) (vs.map fun Z=>if Z.1=k then (Z.1,u) else Z):=by
 unfold KV at r |-
 induction r with
 |nil=>exact .nil
 |@cons p q ps qs h t Y=>
  rw[cg,cg];refine .cons ?_ Y;obtain⟨h1,h2⟩:=h
  by_cases e:p.1=k
  ·rw[if_pos e,if_pos (h1.symm.trans e)];exact⟨h1,W⟩
  ·rw[if_neg e,if_neg (fun z=>e (h1.trans z))];exact⟨h1,h2⟩
theorem KV.put{kvs:List (κ×V)}{vs:List (κ×ae)}(r:KV kvs vs)(k:κ){y:V}{u:ae}(Z:RelV y u):KV (iW kvs k y) (wI vs k u):=by
 unfold iW wI;rw[r.any k]
 by_cases e:(vs.any fun Y=>decide (Y.1=k))=true
 ·rw[if_pos e,if_pos e];exact r.repl k Z
 ·rw[if_neg e,if_neg e];exact eR r ⟨rfl,Z⟩
theorem KV.length{kvs:List (κ×V)}{vs:List (κ×ae)}(r:KV kvs vs):kvs.length=vs.length:=aZ r
end
theorem wJ{P:aM}{w:bO}{k:Key}{u:ae}(r:RelV (kV k) u):(eZ P w).is k u=true:=by
 cases k with
 |inl i=>obtain⟨t,e⟩:=(show ∃t,u=Value.int i t from r);subst e;exact zY P w i t
 |inr x=>obtain⟨t,e⟩:=(show ∃t,u=Value.str x t from r);subst e;exact zZ P w x t
theorem yc{P:aM}{w:bO}:∀{ks:List Key} {us:List ae},c9 (ks.map kV) us->ItemsAre (eZ P w) ks us
 | [],_,r=>by rw[uZ]at r;cases r;exact .nil
 |k::ks,_,r=>by
  rw[cg]at r
  cases r with
  |cons h t=>exact .cons (wJ h) (yc t)
abbrev KT(H:Hp):List (List Key×V)->List (List Key×aa×ae)->Prop:=aK fun p q=>p.1=q.1/\H q.2.1=some (.tup (p.1.map kV))/\RelV p.2 q.2.2
theorem KT.val{H:Hp}{kvs:List (List Key×V)}{xs:List (List Key×aa×ae)}(r:KT H kvs xs)(k:List Key):rH (jQ kvs k) ((Bz xs k).map (·.2)):=by
 induction r with
 |nil=>exact True.intro
 |@cons p q ps qs h t Y=>
  obtain⟨h1,_,h2⟩:=h
  by_cases e:p.1=k
  ·have Z:q.1=k:=h1.symm.trans e;have b:Bz (q::qs) k=some q.2:=by simp[Bz,jy,Z]
   rw[qq e,b];exact h2
  ·have Z:¬q.1=k:=fun z=>e (h1.trans z);have b:Bz (q::qs) k=Bz qs k:=by simp[Bz,jy,Z]
   rw[qv e,b];exact Y
theorem KT.repl{H:Hp}{kvs:List (List Key×V)}{xs:List (List Key×aa×ae)}(r:KT H kvs xs)(k:List Key){y:V}{u:ae}(W:RelV y u) :
  KT H (kvs.map fun Z=>if Z.1=k then (Z.1,y) else Z) (xs.map (putAt k u)):=by
 induction r with
 |nil=>exact .nil
 |@cons p q ps qs h t Y=>
  rw[cg,cg];refine .cons ?_ Y;obtain⟨h1,h2,U⟩:=h;unfold putAt
  by_cases e:p.1=k
  ·rw[if_pos e,if_pos (h1.symm.trans e)];exact⟨h1,h2,W⟩
  ·rw[if_neg e,if_neg (fun z=>e (h1.trans z))];exact⟨h1,h2,U⟩
theorem KT.put{H:Hp}{kvs:List (List Key×V)}{xs:List (List Key×aa×ae)}(r:KT H kvs xs)(k:List Key){b:aa}{y:V}{u:ae}(hb:H b=some (.tup (k.map kV)))(Z:RelV y u) :
  KT H (iW kvs k y) (storedH xs k b u):=by
 have e:(kvs.any fun Y=>decide (Y.1=k))=(Bz xs k).isSome:=by
  rw[kC,(r.val k).isSome_eq,nG]
 unfold iW storedH;rw[e]
 by_cases q:(Bz xs k).isSome=true
 ·rw[if_pos q,if_pos q];exact r.repl k Z
 ·rw[if_neg q,if_neg q];exact eR r ⟨rfl,hb,Z⟩
theorem KT.keeps{H H':Hp}{kvs:List (List Key×V)}{xs:List (List Key×aa×ae)}(r:KT H kvs xs)(ht:∀b ys,H b=some (.tup ys)->H' b=some (.tup ys)):KT H' kvs xs:=
 Paired.mapP r fun _ _ z=>{z.1,ht _ _ z.2.1,z.2.2}
section
variable{P:aM}{w:bO}{H:Hp}{h:cC}{a:aa}
theorem Lu{u:HO}(ok:HOk P w H h)(e:Rd H a u):eP P w H h a u:=e.ok ok
theorem Ab{kvs:List (Key×V)}(ok:HOk P w H h)(e:Rd H a (.dK kvs)):kvs.length<=aB/\(a==fi)=false/\∃vs,KV kvs vs/\h.DictOf (eZ P w) a vs:=
 show eP P w H h a (.dK kvs) from Lu ok e
theorem Lv{kvs:List (Key×V)}(ok:HOk P w H h)(e:H a=some (.dK kvs)):kvs.length<=aB/\(a==fi)=false/\∃vs,KV kvs vs/\h.DictOf (eZ P w) a vs:=Ab ok (.inl e)
theorem wK{ks:List Key}(ok:HOk P w H h)(e:H a=some (.tup (ks.map kV))):(yH (eZ P w)).is h ks a:=by
 obtain⟨_,Z,r,o,h1,h2,n,Y⟩:=(show eP P w H h a (.tup (ks.map kV)) from ok a _ e);exact{o,Z.toArray,n,h1,h2,Y,by simpa using yc r}
theorem Ac{kvs:List (List Key×V)}(ok:HOk P w H h)(e:Rd H a (.dT kvs)):kvs.length<=aB/\(a==fi)=false /\
  ∃xs,KT H kvs xs/\h.DictOfH (yH (eZ P w)) a xs:=by
 obtain⟨z,y,xs,r,o,es,ep,h1,h2,W,U,Y⟩:=(show eP P w H h a (.dT kvs) from Lu ok e);refine{z,y,xs,r,o,es,ep,h1,h2,W,U,fun x hx=>?_,Y};have all:∀{l:List (List Key×V)} {m:List (List Key×aa×ae)},KT H l m->∀x∈m,(yH (eZ P w)).is h x.1 x.2.1:=by
  intro l m q
  induction q with
  |nil=>intro x hx;exact nomatch hx
  |@cons p q ps qs hq t Z=>
   intro x hx
   rcases ar.mp hx with e|hx
   ·subst e;exact wK ok (by rw[<- hq.1];exact hq.2.1)
   ·exact Z x hx
 exact all r x hx
theorem dt_of{kvs:List (List Key×V)}(ok:HOk P w H h)(e:H a=some (.dT kvs)):kvs.length<=aB/\(a==fi)=false /\
  ∃xs,KT H kvs xs/\h.DictOfH (yH (eZ P w)) a xs:=Ac ok (.inl e)
end
def pZ(H:Hp)(a:aa)(y:V)(r:Option V):Prop:=
 (∃kvs k,Rd H a (.dK kvs)/\y=kV k/\r=jQ kvs k)\/∃kvs k b,Rd H a (.dT kvs)/\y=.ref b/\H b=some (.tup (k.map kV))/\r=jQ kvs k
def uw(H:Hp)(a:aa)(y v:V)(H':Hp):Prop:=
 (∃kvs k,H a=some (.dK kvs)/\y=kV k/\kvs.length<aB/\H'=upd H a (.dK (iW kvs k v))) \/
 ∃kvs k b,H a=some (.dT kvs)/\y=.ref b/\H b=some (.tup (k.map kV))/\kvs.length<aB/\H'=upd H a (.dT (iW kvs k v))
theorem pZ.k{H:Hp}{a:aa}{kvs:List (Key×V)}{k:Key}(e:H a=some (.dK kvs)):pZ H a (kV k) (jQ kvs k):=.inl {kvs,k,.inl e,rfl,rfl}
theorem uw.k{H:Hp}{a:aa}{kvs:List (Key×V)}{k:Key}{v:V}(e:H a=some (.dK kvs))(hl:kvs.length<aB):uw H a (kV k) v (upd H a (.dK (iW kvs k v))):=.inl ⟨kvs,k,e,rfl,hl,rfl⟩
section
variable{X:Cx}{pins:List (aa×Obj)}{σ:St}{H:Hp}{s:ao}{a:aa}{y v:V}{u r:ae}{o:Option V}{A:cj}{E:ae->ao->Prop}
theorem Inv.big(I:Inv X pins σ H s):fi<s.heap.objs.size:=by
 have h:bD<s.heap.objs.size:=(I.mod.glob.keeps I.bk).lt;exact qx (by decide) h
theorem EE{Q:ae->ao->Prop}(hu:A.units+1<eN)(I:Inv X pins σ H s)(g:pZ H a y (some v))(O:RelV y u)(h:∀W s',Inv X pins σ H s'->RelV v W->Q W s') :
  aX (bA X.prog X.w) A (uY (.ref a) u) Q E s:=by
 rcases g with⟨kvs,k,e,V,l⟩|⟨kvs,k,b,e,V,J,l⟩
 ·subst V;obtain⟨z,hd,vs,Y,dd⟩:=Ab I.hok e;obtain⟨W,hw,Z⟩:=rH.some_of (v:=v) (o:=p9 vs k) (by rw[l];exact Y.val k);exact wpAny_getItem_of (wJ O) dd.mapOf hw (h W _ (I.tok _) Z)
 ·subst V
  cases (show u=Value.ref b from O);obtain⟨z,hd,xs,Y,dd⟩:=Ac I.hok e;obtain⟨W,hw,Z⟩:=rH.some_of (v:=v) (o:=(Bz xs k).map (·.2)) (by rw[l];exact Y.val k);obtain⟨p,hp,U⟩:=jO.mp hw;refine wpAny_getItem_heap (o5 hu) (wK I.hok J) dd hp ?_;rw[U];exact h W _ (I.tok _) Z
theorem d_in{Q:ae->ao->Prop}(hu:A.units+1<eN)(I:Inv X pins σ H s)(g:pZ H a y o)(W:RelV y u)(h:∀s',Inv X pins σ H s'->Q (.bool o.isSome) s') :
  aX (bA X.prog X.w) A (c5 .In u (.ref a)) Q E s:=by
 rcases g with⟨kvs,k,e,Y,l⟩|⟨kvs,k,b,e,Y,V,l⟩
 ·subst Y;obtain⟨z,hd,vs,Z,dd⟩:=Ab I.hok e;refine wpAny_in_of (wJ W) hd dd.mapOf ?_;rw[<- (Z.val k).isSome_eq,<- l];exact h _ (I.tok _)
 ·subst Y
  cases (show u=Value.ref b from W);obtain⟨z,hd,xs,Z,dd⟩:=Ac I.hok e;refine wpAny_in_heap (o5 hu) (wK I.hok V) hd dd ?_;have q:=(Z.val k).isSome_eq;rw[nG]at q;rw[<- q,<- l];exact h _ (I.tok _)
theorem JN{Q:ae->ao->Prop}(hu:A.units+1<eN)(I:Inv X pins σ H s)(g:pZ H a y o)(W:RelV y u)(h:∀s',Inv X pins σ H s'->Q (.bool (!o.isSome)) s') :
  aX (bA X.prog X.w) A (c5 .NotIn u (.ref a)) Q E s:=by
 rcases g with⟨kvs,k,e,Y,l⟩|⟨kvs,k,b,e,Y,V,l⟩
 ·subst Y;obtain⟨z,hd,vs,Z,dd⟩:=Ab I.hok e;refine wpAny_notIn_of (wJ W) hd dd.mapOf ?_;rw[<- (Z.val k).isSome_eq,<- l];exact h _ (I.tok _)
 ·subst Y
  cases (show u=Value.ref b from W);obtain⟨z,hd,xs,Z,dd⟩:=Ac I.hok e;refine wpAny_notIn_heap (o5 hu) (wK I.hok V) hd dd ?_;have q:=(Z.val k).isSome_eq;rw[nG]at q;rw[<- q,<- l];exact h _ (I.tok _)
theorem yY{h':cC}{t':Nat}{ob:HO}(I:Inv X pins σ H s)(Z:Mut (H a))(hs:uQ a s.heap h')(Y:∃q,h'.get? a=some q)(new:eP X.prog X.w (upd H a ob) h' a ob) :
  Inv X pins σ (upd H a ob) {s with heap:=h',toks:=t'}:=
 I.write (x:=a) (e:=a) Z (.inl rfl) (fun b q hb z=>(hs.2 b hb).trans z) Y new
theorem yZ{P:aM}{w:bO}{H':Hp}{h':cC}{kvs:List (Key×V)}{vs:List (Key×ae)}(z:kvs.length<=aB)(hd:(a==fi)=false)(Z:KV kvs vs)(dd:h'.DictOf (eZ P w) a vs) :
  eP P w H' h' a (.dK kvs):=⟨z,hd,vs,Z,dd⟩
theorem EF{H':Hp}{Q:Unit->ao->Prop}(hu:A.units+1<eN)(I:Inv X pins σ H s)(g:uw H a y v H')(O:RelV y u)(rv:RelV v r)(h:∀s',Inv X pins σ H' s'->Q () s') :
  aX (bA X.prog X.w) A (setItem (.ref a) u r) Q E s:=by
 rcases g with⟨kvs,k,e,V,l,W⟩|⟨kvs,k,b,e,V,J,l,W⟩
 ·subst V W;obtain⟨z,hd,vs,Z,dd⟩:=Lv I.hok e;have U:vs.length<=aB:=by rw[<- Z.length];exact z
  have hl:(iW kvs k v).length<=aB:=by have:=mP kvs k v;omega
  refine wpAny_setItem_pairs (hsz:=U) (wJ O) dd fun h' Y hs=>h _ ?_;have he:∃q,h'.get? a=some q:=let ⟨q,_,_,hq,_⟩:=Y;⟨q,hq⟩;exact yY I (by rw[e];exact True.intro) hs he (yZ hl hd (Z.put k rv) Y)
 ·subst V W
  cases (show u=Value.ref b from O);obtain⟨z,hd,xs,Z,dd⟩:=dt_of I.hok e;have U:xs.length<=aB:=by rw[<- aZ Z];exact z
  have hl:(iW kvs k v).length<=aB:=by have:=mP kvs k v;omega
  refine wpAny_setItem_heap (hsz:=U) (o5 hu) (wK I.hok J) dd fun h' Y hs=>h _ ?_;obtain⟨q,es,ep,hq,h2,h3,h4,_,h5⟩:=Y;refine yY I (by rw[e];exact True.intro) hs ⟨q,hq⟩ {hl,hd,_,(Z.put k J rv).keeps fun c ys D=>?_,q,es,ep,hq,h2,h3,h4,h5};rw[aN (pO D e (fun z=>nomatch z))];exact D
end
section
variable{X:Cx}{pins:List (aa×Obj)}{σ:St}{H:Hp}{s:ao}{a:aa}{kvs:List (Key×V)}{k:Key}{u:ae}{A:cj}{E:ae->ao->Prop}
end
def NoSl(i:cU):Prop:=∀Z Y,zT i false Z Y=operate [Z,Y] (uY Z Y)
theorem JO{prog:aM}{w:bO}{A:cj}{E:ae->ao->Prop}{s:ao}{env:Env}{value Z:cU}{pos:Pos}{T id:String}{Q:ae->ao->Prop}
  (hl:Nj (.type T) "__getitem__"=pure (some (.builtin id))) (hs:NoSl Z)
  (h:aX (bA prog w) A (gf value env) (fun o V=>aX (bA prog w) A (gf Z env) (fun i Y=>Y.TypeIs o T/\aX (bA prog w) A (uY o i) Q E Y) E V) E s) :
  aX (bA prog w) A (gf (.Subscript value Z pos) env) Q E s:=by
 refine Nl (eK h (fun o V U=>eK U (fun i Y W=>?_) fun _ _ x=>x) fun _ _ x=>x);obtain⟨O,W⟩:=W;unfold EB;refine ai ?_;rw[getitemInPython_of_ne O.not_modules];refine ai (wpAny_specialOf O hl ?_);have fin:aX (bA prog w) A (zT Z false o i) (fun r s₃=>aX (bA prog w) A (letTemporaryGo value o r >>= fun _=>pure r) Q E s₃) E Y:=by
  rw[hs o i];exact wpAny_operating (eK W (fun r s₃ h₃=>ai (wpAny_letTemporaryGo (aO h₃))) fun _ _ x=>x)
 first
  |exact aO (ai fin)
  |exact ai (aO (ai fin))
  |exact ai fin
theorem Ad{X:Cx}{pins:List (aa×Obj)}{σ:St}{H:Hp}{s:ao}{a:aa}{y:V}{o:Option V}(I:Inv X pins σ H s)(g:pZ H a y o):s.TypeIs (.ref a) "dict":=by
 rcases g with⟨kvs,k,e,_,_⟩|⟨kvs,k,b,e,_,_,_⟩
 ·obtain⟨_,_,vs,_,dd⟩:=Ab I.hok e;exact dd.typeIs
 ·obtain⟨_,_,xs,_,dd⟩:=Ac I.hok e;exact dd.typeIs
inductive DGI(x y:V)(H:Hp)(Q:VK):Prop where
 |mk(a:aa)(v:V)(hx:x=.ref a)(d:pZ H a y (some v))(q:Q v H):DGI x y H Q
def tDGet(td ty:TE):TE:=fun σ H Q=>td σ H fun x H1=>ty σ H1 fun y H2=>DGI x y H2 Q
def tDIn(ty td:TE):TE:=fun σ H Q=>ty σ H fun y H1=>td σ H1 fun x H2=>∃a o,x=.ref a/\pZ H2 a y o/\Q (.bl o.isSome) H2
def JP(ty td:TE):TE:=fun σ H Q=>ty σ H fun y H1=>td σ H1 fun x H2=>∃a o,x=.ref a/\pZ H2 a y o/\Q (.bl (!o.isSome)) H2
def sDPut(td ty tv:TE):TS:=fun D σ H=>tv σ H fun v H1=>td σ H1 fun x H2=>ty σ H2 fun y Y=>∃a Z,x=.ref a/\uw Y a y v Z/\D.nx σ Z
section
variable{X:Cx}{o i e value:cU}{pos pos' tpos:Pos}{td ty tv:TE}
theorem rp(hu:X.A.units+1<eN)(ho:PE X o td)(hi:PE X i ty)(hs:NoSl i):PE X (.Subscript o i pos) (tDGet td ty):=by
 intro pins s σ H Q I h;refine JO PySem.F.slot_dict_getitem.lookup hs (thn (ho pins s σ H _ I h) fun u W ⟨x,H1,O,V,z⟩=>thn (hi pins W σ H1 _ O z) fun iv s2 ⟨y,H2,Y,U,a,v,ex,g,J⟩=>?_);subst ex;obtain rfl:u=Value.ref a:=V;exact{Ad Y g,EE hu Y g U fun w' s3 D Z=>⟨v,H2,D,Z,J⟩}
theorem Gi(hu:X.A.units+1<eN)(hi:PE X i ty)(ho:PE X o td):PC X .In i o (tDIn ty td):=by
 intro pins s σ H Q I h;refine thn (hi pins s σ H _ I h) fun iv Z ⟨y,H1,J,V,O⟩=>thn (ho pins Z σ H1 _ J O) fun u s2 ⟨x,H2,Y,W,a,U,ex,g,D⟩=>?_;subst ex;obtain rfl:u=Value.ref a:=W;exact d_in hu Y g V fun s3 z=>{.bl U.isSome,H2,z,rfl,D}
theorem EG(hu:X.A.units+1<eN)(hi:PE X i ty)(ho:PE X o td):PC X .NotIn i o (JP ty td):=by
 intro pins s σ H Q I h;refine thn (hi pins s σ H _ I h) fun iv Z ⟨y,H1,J,V,O⟩=>thn (ho pins Z σ H1 _ J O) fun u s2 ⟨x,H2,Y,W,a,U,ex,g,D⟩=>?_;subst ex;obtain rfl:u=Value.ref a:=W;exact JN hu Y g V fun s3 z=>{.bl (!U.isSome),H2,z,rfl,D}
theorem mQ(hu:X.A.units+1<eN)(ho:PE X o td)(hi:PE X i ty)(hv:PE X value tv)(hs:uR value (some (.Subscript o i pos')) pos.line X.env=pure false) :
  PS X (.Assign [.Subscript o i pos'] value pos) (sDPut td ty tv):=by
 intro pins s σ H D I h;refine wpAny_Assign_Subscript (thn (hv pins s σ H _ I h) fun r Z ⟨v,H1,z,rv,J⟩=>thn (ho pins Z σ H1 _ z J) fun u s2 ⟨x,H2,W,O,Y⟩=>thn (hi pins s2 σ H2 _ W Y) fun iv s3 ⟨y,H3,I3,U,a,V,ex,g,q3⟩=>?_) hs;subst ex;obtain rfl:u=Value.ref a:=O;exact EF hu I3 g U rv fun s4 I4=>⟨σ,V,I4,q3⟩
end
theorem Ae{P:aM}{w:bO}{H:Hp}(h:cC)(hb:fi<h.objs.size):eP P w H (h.push {cls:=.type "dict",data:=.dict #[]}) h.objs.size (.dK []):=
 {cm _,beq_eq_false_iff_ne.mpr (gi (aQ hb)),[],.nil,A5 h}
def Nv:TE:=fun _ H Q=>∀p,H p=none->Q (.ref p) (upd H p (.dK []))
section
variable{X:Cx}{pos:Pos}
theorem tF:PE X (.Dict [] [] pos) Nv:=fun pins s σ H Q I h=>
 wpAny_Dict_empty {.ref s.heap.objs.size,_,I.laid (a:=s.heap.objs.size) (o:=.dK []) (t':=s.toks) (fun _ _ q=>aJ _ q) (ax _) (Ae s.heap I.big),rfl,h _ (I.hok.fresh (ax _))}
end
def BA:List (TE×TE)->St->Hp->(List (V×V)->Hp->Prop)->Prop
 | [],_,H,Q=>Q [] H
 |(tk,tv)::r,σ,H,Q=>tk σ H fun x H1=>tv σ H1 fun y H2=>BA r σ H2 fun ps Z=>Q ((x,y)::ps) Z
abbrev VV:List (V×V)->List (ae×ae)->Prop:=aK fun p q=>RelV p.1 q.1/\RelV p.2 q.2
def PPs(X:Cx)(pos:Pos)(keys:List (Option cU))(Z:List cU)(Y:List (TE×TE)):Prop:=
 ∀(pins:List (aa×Obj)) (s:ao) (σ:St) (H:Hp) (Q:List (V×V)->Hp->Prop),Inv X pins σ H s->BA Y σ H Q ->
  aX (bA X.prog X.w) X.A (evalPairs (pairTrees keys Z X.env pos)) (fun vs s'=>∃ps H',Inv X pins σ H' s'/\VV ps vs/\Q ps H') X.xe s
theorem Cz{X:Cx}{pos:Pos}:PPs X pos [] [] []:=fun pins s σ H Q I h=>pairTrees_nil_walk {[],H,I,.nil,h}
theorem Af{X:Cx}{pos:Pos}{k v:cU}{ks:List (Option cU)}{vs:List cU}{tk tv:TE}{Z:List (TE×TE)}(hk:PE X k tk)(hv:PE X v tv)(hr:PPs X pos ks vs Z) :
  PPs X pos (some k::ks) (v::vs) ((tk,tv)::Z):=fun pins s σ H Q I h=>
 pairTrees_cons_walk (thn (hk pins s σ H _ I h) fun u W ⟨x,H1,g,D,z⟩=>thn (hv pins W σ H1 _ g z) fun w2 s2 ⟨y,H2,U,J,V⟩=>
  thn (hr pins s2 σ H2 _ U V) fun ws s3 ⟨ps,O,I3,Y,q3⟩=>{(x,y)::ps,O,I3,.cons ⟨D,J⟩ Y,q3})
def lO(kvs more:List (Key×V)):List (Key×V):=more.foldl (fun Z Y=>iW Z Y.1 Y.2) kvs
theorem KV.merge:∀{more:List (Key×V)} {rs:List (Key×ae)} {kvs:List (Key×V)} {vs:List (Key×ae)},KV more rs->KV kvs vs->KV (lO kvs more) (merged vs rs):=by
 intro more rs kvs vs r;unfold KV at r
 induction r generalizing kvs vs with
 |nil=>intro q;exact q
 |@cons p q ps qs h t Z=>
  intro Y;have e:KV (iW kvs p.1 p.2) (wI vs q.1 q.2):=by
   have:=Y.put p.1 h.2;rw[<- h.1];exact this
  exact Z e
theorem rP:∀(more kvs:List (Key×V)),(lO kvs more).length<=kvs.length+more.length
 | [],kvs=>by show kvs.length<=kvs.length+0;omega
 |p::r,kvs=>by
  have h1:=rP r (iW kvs p.1 p.2);have h2:=mP kvs p.1 p.2;show (lO (iW kvs p.1 p.2) r).length<=_;rw[aS];omega
theorem wL{P:aM}{w:bO}:∀{kvs:List (Key×V)} {Z:List (ae×ae)},VV (kvs.map fun Y=>(kV Y.1,Y.2)) Z->∃rs,Carries (eZ P w) Z rs/\KV kvs rs
 | [],_,r=>by rw[uZ]at r;cases r;exact{[],True.intro,.nil}
 |p::kvs,_,r=>by
  rw[cg]at r
  cases r with
  |@cons a b U bs h t=>
   obtain⟨rs,c,q⟩:=wL (P:=P) (w:=w) t;obtain⟨O,W⟩:=b;exact{(p.1,W)::rs,{wJ h.1,rfl,c},.cons ⟨rfl,h.2⟩ q}
def tDisp(Z:List (TE×TE)):TE:=fun σ H Q=>∀p,H p=none->BA Z σ (upd H p (.dK [])) fun ps H2=>H2 p=some (.dK [])/\∃kvs:List (Key×V),ps=kvs.map (fun Y=>(kV Y.1,Y.2))/\kvs.length<=15/\Q (.ref p) (upd H2 p (.dK (lO [] kvs)))
theorem CA{X:Cx}{pos:Pos}{keys:List (Option cU)}{Z:List cU}{V:List (TE×TE)}(h:PPs X pos keys Z V)(W:keys.all (·.isSome)=true)(hl:keys.length=Z.length)(h0:keys≠[])
  (U:keys.length<=15):PE X (.Dict keys Z pos) (tDisp V):=by
 intro pins s σ H Q I q;have hn:=I.hok.fresh (ax s.heap.objs.size);have I1:=I.laid (a:=s.heap.objs.size) (o:=.dK []) (h':=s.heap.push {cls:=.type "dict",data:=.dict #[]}) (t':=s.toks) (fun _ _ q=>aJ _ q) (ax _) (Ae s.heap I.big);refine wpAny_Dict_walk (knd:=eZ X.prog X.w) W hl h0 U (thn (h pins _ σ _ _ I1 (q _ hn)) fun ws s2 ⟨ps,H2,J,O,e,kvs,ep,lk,D⟩=>?_);subst ep;obtain⟨rs,c,rk⟩:=wL (P:=X.prog) (w:=X.w) O;obtain⟨z,hd,g,r0,dd⟩:=Lv J.hok e
 cases r0;refine{rs,c,dd,fun h' Y hs=>{.ref s.heap.objs.size,_,?_,rfl,D}};have hz:(lO [] kvs).length<=aB:=by
  have h1:=rP kvs [];rw[cy]at h1;rw[mw];omega
 have he:∃q,h'.get? s.heap.objs.size=some q:=let ⟨q,_,_,hq,_⟩:=Y;⟨q,hq⟩;exact yY J (by rw[e];exact True.intro) hs he (yZ hz hd (rk.merge .nil) Y)
section
variable{X:Cx}{pins:List (aa×Obj)}{σ:St}{H:Hp}{s:ao}{a:aa}{y d:V}{u r:ae}{o:Option V}{A:cj}{E:ae->ao->Prop}
end
section
variable{X:Cx}{o e f:cU}{apos cpos:Pos}{td ty tx:TE}
end
section
variable{X:Cx}{pins:List (aa×Obj)}{σ:St}{H:Hp}{s:ao}{a:aa}{kvs:List (Key×V)}{A:cj}{E:ae->ao->Prop}
end
section
variable{X:Cx}{pins:List (aa×Obj)}{σ:St}{H:Hp}{s:ao}{a:aa}{y:V}{u:ae}{A:cj}{E:ae->ao->Prop}
end
section
variable{X:Cx}
end
section
variable{κ:Type}[DecidableEq κ]
theorem Gj{kvs:List (κ×V)}{k:κ}(h:jQ kvs k=none):¬k∈kvs.map (·.1):=by
 intro m;obtain⟨p,hp,e⟩:=cD.mp m;have q:(kvs.any fun Z=>decide (Z.1=k))=true:=Jl.mpr {p,hp,decide_eq_true e};rw[kC,h]at q;exact absurd q (by simp)
theorem CH{kvs:List (κ×V)}{k:κ}{v:V}(h:jQ kvs k=some v):k∈kvs.map (·.1):=by
 have q:(kvs.any fun Z=>decide (Z.1=k))=true:=by
  rw[kC,h]
  all_goals rfl
 obtain⟨p,hp,e⟩:=Jl.mp q;exact cD.mpr {p,hp,of_decide_eq_true e}
theorem y7:∀{l:List κ} {k:κ},l.Nodup->¬k∈l->(l++[k]).Nodup
 | [],k,_,_=>by simp
 |a::r,k,h,hk=>by
  obtain⟨h1,h2⟩:=cM.mp h;show (a::(r++[k])).Nodup;refine cM.mpr {fun m=>?_,y7 h2 fun m=>hk (ar.mpr (Or.inr m))}
  rcases bZ.mp m with q|q
  ·exact h1 q
  ·exact hk (ar.mpr (Or.inl (aD.mp q).symm))
end
end L2
set_option maxHeartbeats 4000000
namespace L2
open PySem PySem.Spec PyProof.Rows
theorem eP.has{P:aM}{w:bO}{H:Hp}{h:cC}{a:aa}{o:HO}(x:eP P w H h a o):∃ob,h.get? a=some ob:=by
 cases o with
 |lst xs=>obtain⟨_,_,_,_,e⟩:=x;exact{_,e}
 |tup xs=>obtain⟨_,_,_,ob,e,_⟩:=x;exact{_,e}
 |dK kvs=>obtain⟨_,_,_,_,o,_,_,e,_⟩:=x;exact{_,e}
 |dT kvs=>obtain⟨_,_,_,_,o,_,_,e,_⟩:=x;exact{_,e}
 |set S n=>obtain⟨o,_,_,_,e,_⟩:=x;exact{_,e}
 |ins C dx fs=>obtain⟨_,_,_,e,_⟩:=x;exact{_,e}
 |own y=>exact x
 |xd fs=>obtain⟨_,⟨_,_,_,e,_⟩,_⟩:=x;exact{_,e}
 |rng lo hi=>obtain⟨_,_,_,e⟩:=x;exact{_,e}
 |frz ob u=>obtain⟨e,_⟩:=x;exact{_,e}
 |tbl ps=>exact{_,(show h.get? a=some _ from x)}
 |met f y=>exact{_,(show h.get? a=some _ from x)}
 |ext φ=>obtain⟨_,e,_⟩:=x;exact e
theorem HOk.has{P:aM}{w:bO}{H:Hp}{h:cC}(x:HOk P w H h){b:aa}(n:H b≠none):∃ob,h.get? b=some ob:=by
 cases z:H b with
 |none=>exact absurd z n
 |some u=>exact (x b u z).has
def FlD(B:cC)(l:List Env)(e:aa)(cls fl:ae)(h:cC):Prop:=
 B.StaysIn h/\B.get? e=none/\h.FunFrames B l/\∃Z vs T Y W,h.get? e=some Z/\Z.cls=cls/\Z.dict=none/\Z.data=.fields vs/\vs[1]?=some (.ref T)/\B.get? T=none/\T≠e/\h.get? T=some Y/\Y.data=.fields W/\W[3]?=some fl
theorem EH(o:Obj)(f:Array ae->Array ae):(o.mapFields f).dict=o.dict:=by
 obtain⟨c,d,Z,sl⟩:=o
 cases Z<;>rfl
section
variable{M:Ju}{A:cj}{E:ae->ao->Prop}{s:ao}{B:cC}{env:Env}{outer l:List Env}{L e:aa}{cls fl:ae}{Q:Unit->ao->Prop}
theorem Ag{Y:Obj}{vs:Array ae}{Z:ae}{nx:Bool}(U:A.frames=some (env::outer))(hl:s.heap.FunFrames B (env::outer))(hf:env.frame=some L)(V:s.heap.get? e=some Y)(hB:B.StaysIn s.heap)(J:B.get? e=none)
  (hd:Y.data=.fields vs) (H:1<vs.size) (O:Y.dict=none) (k:∀h',FlD B (env::outer) e Y.cls (uh L) h'->s.heap.UpToSlots h'->Q () {s with heap:=h'}) :
  aX M A (do let a <- frameOf env;let pl <- entryPlaceOf L nx;let b <- y8 Z a .none (uh L) .none pl;setField (.ref e) 1 b) Q E s:=by
 have g:e∉(env::outer).filterMap (·.frame):=fun hm=>by
  obtain⟨_,o,ho,q⟩:=hl.mem hm;rw[V]at ho
  cases ho;exact q vs hd
 refine ai (wpAny_frameOf_fun U hl hf fun h1 g1=>ai (wpAny_entryPlaceOf fun pl W=>?_));unfold y8 newFields;refine ai (i9 ?_ (W.sizeOk5 _ _ _ _ _));have e1:h1.get? e=some Y:=(g1.2.1 e g).trans V;have D:B.StaysIn h1:=fun b o z=>(g1.2.1 b fun hm=>by rw[(hl.mem hm).1]at z;cases z).trans (hB b o z);have ne:h1.objs.size≠e:=qg (aP e1);generalize hob:({cls:=.type "traceback",dict:=none,data:=.fields ([Z,.ref L,.none,uh L,.none]++(if pl.isEmpty then cI 6 Value.none else pl)).toArray}:Obj)=ob;have I:(h1.push ob).get? e=some Y:=aJ _ e1;have t2:(h1.push ob).get? h1.objs.size=some ob:=cz h1 (by rw[<- hob];rfl);refine BB I hd H (k _ ?_ ?_)
 ·have d3:=ux hd (·.setIfInBounds 1 (Value.ref h1.objs.size));have keep:∀b o,b≠e->h1.get? b=some o->((h1.push ob).update e (ua (·.setIfInBounds 1 (Value.ref h1.objs.size)))).get? b=some o:=fun b o q z=>by
   rw[fZ _ _ (gi q)];exact aJ _ z
  refine{fun b o z=>keep b o (fun q=>by rw[q,J]at z;cases z) (D b o z),J,hl.of_keeps fun b o z q=>?_,_,_,h1.objs.size,ob,_,rj _ I (CI d3),Obj.cls_mapFields _ _,(EH _ _).trans O,d3,by simp[H],D.fresh,ne,?_,by rw[<- hob],?_}
  ·obtain⟨sl,w⟩:=g1.2.2 b o z;exact{_,keep b _ (fun y=>by rw[y,V]at z;cases z;exact q vs hd) w,rfl}
  ·rw[fZ _ _ (gi ne)];exact t2
  ·first|(simp;done)|(rcases W with rfl|⟨_,_,_,_,_,_,_,rfl⟩<;>simp)
 ·intro b o z q;obtain⟨sl,w⟩:=g1.2.2 b o z;refine{sl,?_};rw[fZ _ _ (fun y=>by rw[<- y,V]at z;cases z;exact q vs hd)];exact aJ _ w
theorem vG{T:aa}{Y:Obj}{W:Array ae}{h:cC}(V:h.get? T=some Y)(Z:Y.data=.fields W){b:aa}{o:Obj}(hb:h.get? b=some o)(q:∀vs,o.data≠.fields vs):b≠T:=fun y=>by
 rw[y,V]at hb
 cases hb;exact q W Z
theorem y9(W:A.frames=some (env::outer))(U:env.frame=some L)(x:FlD B (env::outer) e cls .none s.heap)(k:∀h',FlD B (env::outer) e cls (uh L) h'->s.heap.UpToSlots h'->Q () {s with heap:=h'}) :
  aX M A (Fq (.ref e) env) Q E s:=by
 obtain⟨g,H,hl,oe,vs,T,oT,ts,V,rfl,Y,hd,h1,J,I,Z,dT,O⟩:=x;unfold Fq;simp only[U];refine ai (mB V hd h1 ?_);rw[if_pos (show (Value.ref T != Value.none)=true from by simp)];refine ai (mB Z dT O ?_);rw[if_neg (show ¬((Value.none==uh L)=true) from by simp[uh])];refine ai (BB Z dT (mH.mp O).1 ?_);have ot:∀b,b≠T->(s.heap.update T (ua (·.setIfInBounds 3 Value.none))).get? b=s.heap.get? b:=fun b hb=>fZ _ _ (gi hb);refine Ag (s:={s with heap:=s.heap.update T (ua (·.setIfInBounds 3 Value.none))}) W (hl.of_keeps fun b o z q=>{o,(ot b (vG Z dT z q)).trans z,rfl}) U ((ot e (gi I)).trans V)
  (fun b o z=>(ot b fun y=>by rw[y,J]at z;cases z).trans (g b o z)) H hd (mH.mp h1).1 Y fun h' D y2=>k h' D fun b o z q=>y2 b o ((ot b (vG Z dT z q)).trans z) q
theorem qy(x:FlD B l e cls fl s.heap)(k:∀h',FlD B l e cls .none h'->s.heap.UpToSlots h'->Q () {s with heap:=h'}):aX M A (setFlight (.ref e) none) Q E s:=by
 obtain⟨H,J,hl,I,vs,T,oT,D,O,hc,Y,hd,h1,W,V,Z,dT,g⟩:=x;have U:3<D.size:=(mH.mp g).1;have ot:∀b,b≠T->(s.heap.update T (ua (·.setIfInBounds 3 ((none:Option aa).elim Value.none fun f=>uh f)))).get? b=s.heap.get? b:=fun b hb=>fZ _ _ (gi hb);unfold setFlight;refine ai (mB O hd h1 ?_);rw[if_pos (show (Value.ref T != Value.none)=true from by simp)];refine BB Z dT U (k _ {fun b o z=>(ot b fun y=>by rw[y,W]at z;cases z).trans (H b o z),J,hl.of_keeps fun b o z q=>{o,(ot b (vG Z dT z q)).trans z,rfl},I,vs,T,_,_,(ot e (gi V)).trans O,hc,Y,hd,h1,W,V,rj _ Z (CI (ux dT _)),ux dT _,by simp[U]}
  fun b o z q=>{o.slots,(ot b (vG Z dT z q)).trans z})
theorem FlD.tail(x:FlD B (env::outer) e cls fl s.heap):FlD B outer e cls fl s.heap:=by
 obtain⟨a,b,⟨_,_,c⟩,d⟩:=x;exact⟨a,b,c,d⟩
theorem FlD.there{h:cC}(x:FlD B l e cls fl h):∃ob,h.get? e=some ob/\ob.cls=cls:=by
 obtain⟨_,_,_,Y,_,_,_,_,Z,hc,_⟩:=x;exact⟨Y,Z,hc⟩
theorem EI(Z:A.frames=some (env::outer))(W:env.frame=some L)(x:FlD B (env::outer) e cls .none s.heap)(k:∀h',FlD B outer e cls .none h'->s.heap.UpToSlots h'->Q () {s with heap:=h'}):aX M A (A4 env (.ref e)) Q E s:=by
 unfold A4;refine ai (y9 Z W x fun h1 x1 u1=>qy (s:={s with heap:=h1}) x1 fun h2 Y u2=>k h2 (FlD.tail (s:={s with heap:=h2}) Y) (u1.trans u2))
theorem JQ{h:cC}{args:List ae}(Z:A.frames=some (env::outer))(W:env.frame=some L)(V:B.StaysIn h)(hl:h.FunFrames B (env::outer))(x:Lw h s.heap e cls args)
  (k:∀h',FlD B outer e cls .none h'->s.heap.UpToSlots h'->Q () {s with heap:=h'}):aX M A (A4 env (.ref e)) Q E s:=by
 obtain⟨t,Y,O,ht⟩:=x.there;have en:B.get? e=none:=by
  cases q:B.get? e with
  |none=>rfl
  |some o=>have z:=V e o q;rw[x.new]at z;cases z
 unfold A4 Fq;simp only[W];refine ai (ai (mB (x:=Value.none) Y rfl rfl ?_));rw[if_neg (show ¬((Value.none != Value.none)=true) by decide)];exact Ag Z (hl.of_keeps fun b o z _=>{o,x.keeps b o z,rfl}) W Y (fun b o z=>x.keeps b o (V b o z)) en rfl (show 1<6 by decide) rfl fun h1 x1 u1=>qy (s:={s with heap:=h1}) x1 fun h2 U u2=>k h2 (FlD.tail (s:={s with heap:=h2}) U) (u1.trans u2)
end
def Fly(B:cC)(stk:List Env)(Z C:aa)(h:cC):Prop:=FlD B stk Z (.ref C) .none h
def CXo(P:aM)(w:bO):CXT:=fun outer H s E e s'=>
 ∃(Z C:aa) (H':Hp) (B:cC),e=.ref Z/\E (.ref C) none H'/\s'.os=s.os/\p6 s'.gens/\Un (frs outer) [] H H' s.heap s'.heap/\HOk P w H' s'.heap/\Fly B outer Z C s'.heap /\
  ∀b o,(H' b≠none\/∃o',s.heap.get? b=some o')->b∉frs outer->s'.heap.get? b=some o->B.get? b=some o
theorem Un.left{fs stk:List aa}{H₀ H:Hp}{h₀ h h' B:cC}(u:Un fs [] H₀ H h₀ h)(V:B.StaysIn h')(Z:∀b o,(H b≠none\/∃o',h₀.get? b=some o')->b∉stk->h.get? b=some o->B.get? b=some o)
  (hst:∀b o,h₀.get? b=some o->b∈stk->b∈fs) (sl:∀b∈fs,∀o,h.get? b=some o->∃sl,h'.get? b=some {o with slots:=sl}):Un fs [] H₀ H h₀ h' where
 keep:=fun b o e n hb hx=>V b o (Z b o (.inr ⟨o,e⟩) (fun z=>hb (hst b o e z)) (u.keep b o e n hb hx))
 slot:=fun b o e n hb hx=>by
  obtain⟨U,e1⟩:=u.slot b o e n hb hx;obtain⟨s2,Y⟩:=sl b hb _ e1;exact⟨s2,Y⟩
 free:=u.free
 there:=fun b o e hx=>by
  obtain⟨o',W⟩:=u.there b o e hx
  by_cases hb:b∈stk
  ·obtain⟨s2,Y⟩:=sl b (hst b o e hb) _ W;exact{_,Y}
  ·exact{o',V b o' (Z b o' (.inr ⟨o,e⟩) hb W)}
 tups:=u.tups
 frzs:=u.frzs
 tbls:=u.tbls
theorem HOk.left{P:aM}{w:bO}{H:Hp}{h h' B:cC}(ok:HOk P w H h)(Y:B.StaysIn h')(Z:∀b o,H b≠none->h.get? b=some o->B.get? b=some o):HOk P w H h':=fun a o e=>
 (ok a o e).stay (fun b u hb q=>Y b u (Z b u (by
  rcases hb with z|z
  ·rw[z,e];simp
  ·rw[z];simp) q)) (fun _ q=>q) (fun _ _ q=>q)
section
variable{X:Cx}{pins:List (aa×Obj)}{σ:St}{H:Hp}{s:ao}{E E':XK}
theorem Inv.oldfs(I:Inv X pins σ H s):∀b o,X.s₀.heap.get? b=some o->b∈frs X.stack->b∈X.fs:=fun b o e hb=>by
 rcases ar.mp (I.stkSub b hb) with z|z
 ·exact absurd (bM (aP e) I.ok.above) (by rw[z];exact hW _)
 ·exact z
theorem Inv.ntr(I:Inv X pins σ H s):∀b,H b≠none->b∉frs X.stack:=fun b Z z=>Z (I.stkFree b z)
theorem Inv.slotsOf(I:Inv X pins σ H s){h':cC}(sm:s.heap.UpToSlots h'):∀b∈X.fs,∀o,s.heap.get? b=some o->∃sl,h'.get? b=some {o with slots:=sl}:=fun b hb o e=>by
 obtain⟨_,o',Z,hd⟩:=I.funs.mem hb;rw[e]at Z
 cases Z;exact sm b o e hd
structure vc(X:Cx)(E:XK):Prop where
 stk:X.stack=X.env::X.outer
 fr:X.env.frame=some X.env.locals
 ex:X.ex=[]
 xe:X.xe=fun e s'=>aX (bA X.prog X.w) X.A (A4 X.env e) (fun _ s''=>CXo X.prog X.w X.outer X.H₀ X.s₀ E e s'') (fun e' s''=>CXo X.prog X.w X.outer X.H₀ X.s₀ E e' s'') s'
theorem dR{P:aM}{w:bO}{K:af}{mg:Str->Option ae}{base:cC}{N:List Str}{Y:Str}{Z:mi}{f:aa}{W:ae}{A:cj}{outer:List Env} :
  vc (uq (CXo P w) P w K mg base N Y Z f W A outer s H E) E:=⟨rfl,rfl,rfl,rfl⟩
theorem vc.raises(hb:vc X E)(I:Inv X pins σ H s){h':cC}{e C:aa}{vs:List ae}(hx:Lw s.heap h' e (.ref C) vs)(q:E (.ref C) none H):X.xe (.ref e) {s with heap:=h'}:=by
 rw[hb.xe];have U:X.A.frames=some (X.env::X.outer):=by rw[I.ok.frames,hb.stk]
 have O:∀env∈X.stack,∀a,env.frame=some a->a∈frs X.stack:=fun env he a ha=>tZ.mpr ⟨env,he,ha⟩;have fl:s.heap.FunFrames (pP s.heap (frs X.stack)) (X.env::X.outer):=by
  have z:=PySem.W.funFrames_hide I.stack O;rw[hb.stk]at z |-;exact z
 have J:Un X.fs [] X.H₀ H X.s₀.heap s.heap:=by
  have z:=I.base;rw[hb.ex]at z;exact z
 have Z:∀b o,b∉frs X.stack->s.heap.get? b=some o->(pP s.heap (frs X.stack)).get? b=some o:=fun b o n e=>A1 _ e n;refine JQ (B:=pP s.heap (frs X.stack)) (h:=s.heap) U hb.fr (fun b o z=>Bb _ z) fl hx fun Y x1 x4=>?_;have sm:s.heap.UpToSlots Y:=(O0 hx.keeps).trans x4;refine{e,C,H,_,rfl,q,I.os,I.bare,J.left (stk:=frs X.stack) x1.1 (fun b o _ n e=>Z b o n e) I.oldfs (I.slotsOf sm),I.hok.left x1.1 (fun b o n e=>Z b o (I.ntr b n) e),x1,?_};intro b o c n e1;have nb:b∉frs X.stack:=by
  rcases c with c|⟨o',c⟩
  ·exact I.ntr b c
  ·exact fun z=>n (I.oldfs b o' c z)
 obtain⟨V,D⟩:∃V,s.heap.get? b=some V:=by
  rcases c with c|⟨o',c⟩
  ·exact I.hok.has c
  ·exact J.there b o' c (by simp)
 have e3:Y.get? b=some V:=x1.1 b V (Z b V nb D);have g:Y.get? b=some o:=e1;rw[e3]at g
 cases g;exact Z b _ nb D
theorem vc.passes(hb:vc X E)(hE:∀c d H,E' c d H->E c d H):lH (CXo X.prog X.w) X E':=fun pins σ H s e s' I h=>by
 obtain⟨g,C,H',B,rfl,q,os,bare,un,hok,fl,V⟩:=h;have J:Inv X pins σ H' s':=I.call' (ch:=[]) os un hok bare (fun b z=>absurd z (by simp));rw[hb.xe];have O:X.A.frames=some (X.env::X.outer):=by rw[I.ok.frames,hb.stk]
 have D:Un X.fs [] X.H₀ H' X.s₀.heap s'.heap:=by
  have z:=J.base;rw[hb.ex]at z;exact z
 have ui:Un X.fs [] X.H₀ H X.s₀.heap s.heap:=by
  have z:=I.base;rw[hb.ex]at z;exact z
 have Z:∀b o,(H' b≠none\/∃o',X.s₀.heap.get? b=some o')->b∉frs X.stack->s'.heap.get? b=some o->B.get? b=some o:=fun b o c n e=>
  V b o (c.imp_right fun⟨o',z⟩=>ui.there b o' z (by simp)) n e
 have U:FlD B (X.env::X.outer) g (.ref C) .none s'.heap:=by
  rw[<- hb.stk];exact fl
 refine EI O hb.fr U fun W x1 x2=>?_;refine{g,C,H',B,rfl,hE _ _ _ q,J.os,J.bare,D.left (stk:=frs X.stack) x1.1 Z J.oldfs (J.slotsOf x2),J.hok.left x1.1 (fun b o n e=>Z b o (.inl n) (J.ntr b n) e),x1,?_};intro b o c n e1;have nb:b∉frs X.stack:=by
  rcases c with c|⟨o',c⟩
  ·exact J.ntr b c
  ·exact fun z=>n (J.oldfs b o' c z)
 obtain⟨Y,e2⟩:∃Y,s'.heap.get? b=some Y:=by
  rcases c with c|⟨o',c⟩
  ·exact J.hok.has c
  ·exact D.there b o' c (by simp)
 have e3:W.get? b=some Y:=x1.1 b Y (Z b Y c nb e2);have e4:W.get? b=some o:=e1;rw[e3]at e4
 cases e4;exact Z b _ c nb e2
end
section
variable{X:Cx}{E:XK}{x:Str}{C:aa}{np cpos pos:Pos}{e₀:cU}{rest:List cU}{ta:TA}{K:af}{h:cC}
theorem JR{U:List ae}{Z:String}(X:K.In h)(q:cT K C U Z=true) :
  ∃bm N nm q bs hdct sn sub ab col dd k0 k1 k2 k3 k5 mN,h.get? C=some (excClassObj nm q C N bs bm hdct sn sub ab col dd k0 k1 k2 k3 k5 Z)/\h.Ns N mN/\mN "__init__"=none/\OwnTail h U bm:=by
 unfold cT at q
 split at q
 ·rename_i dd cd sl ho
  split at q
  ·rename_i C' bm k0 k1 k2 k3 n k5 hm hs
   simp only[kN,beq_iff_eq,Bool.not_eq_true']at q;obtain⟨⟨⟨⟨⟨rfl,rfl⟩,Y⟩,ht⟩,hok⟩,V⟩:=q;obtain⟨nm,bs,J,ns,qn,hd,sn,sub,ab,col,I⟩:=cd;dsimp only at hm Y hok V;subst hm Y;have e:sl=#[k0,k1,k2,k3,some (.builtin n),k5]:=by
    obtain⟨l⟩:=sl;have O:l=[k0,k1,k2,k3,some (.builtin n),k5]:=hs;rw[O]
   subst e;exact{bm,ns,nm,qn,bs,hd,sn,sub,ab,col,dd,k0,k1,k2,k3,k5,_,X _ _ ho,.of_isNs (PySem.W.isNs_of_in X hok),PySem.W.nsMap_none_of_in X hok V,PySem.W.tail_of_in X ht}
  ·cases q
 ·cases q
def o6:List ae:=[.type "ValueError",.type "Exception",.type "BaseException",.type "object"]
def Nx(C:aa)(E:XK)(ta:TA):TS:=fun _ σ H=>ta σ H fun vs H1=>vs.length<=aB/\E (.ref C) none H1
theorem jG(hb:vc X E)(hc:X.calm=true)(g:Gl X x)(hm:X.mg x=some (.ref C))(hx:cT X.K C o6 "ValueError.__new__"=true)(ha:PA X (e₀::rest) ta)
  (hd:(x==("__debug__":Str))=false:=by decide) (V:cK (e₀::rest) X.env=(false,gf e₀ X.env)::cK rest X.env:=by rfl) (W:(jj cpos (cK rest X.env)).any (·.1)=false:=by rfl) :
  PS X (.Raise (some (.Call (.Name x np) (e₀::rest) [] cpos)) none pos) (Nx C E ta):=by
 intro pins s σ H D I h;obtain⟨bm,N,nm,q,bs,hdct,sn,sub,ab,col,dd,k0,k1,k2,k3,k5,mN,U,O,Y,T⟩:=JR I.ok.mod.kin hx;have base:o6.contains (.type "BaseException")=true:=F.excBase_ValueError.hasBase;refine wpAny_Raise_call_subT (C:=C) (nm:=nm) (q:=q) (N:=N) (bs:=bs) (bm:=bm) (hdct:=hdct) (sn:=sn) (sub:=sub) (ab:=ab) (col:=col) (dd:=dd) (k0:=k0) (k1:=k1) (k2:=k2) (k3:=k3) (k5:=k5)
  F.excBase_ValueError (mN:=mN) (T.hasType base) (I.ok.hd hc) (by rw[V];show (false||(jj cpos (cK rest X.env)).any (·.1))=false;rw[W];rfl) Y (qY I g hm {rfl,?_} hd)
 have h1:=ha cpos pins s σ H _ I h;rw[V]at h1 |-;refine Bv (eK h1 (fun us s2 z=>?_) fun _ _ y=>y);obtain⟨vs,H1,Z,r,hl,J⟩:=z;exact{rfl,by rw[<- r.length];exact hl,Z.bk _ _ U,O.keeps Z.bk,T.keeps Z.bk,fun h' e hm=>hb.raises Z hm J}
end
section
variable{X:Cx}{pins:List (aa×Obj)}{σ:St}{H:Hp}{s:ao}{T:aa->St->Hp->Prop}
def xI(X:Cx)(pins:List (aa×Obj))(H:Hp)(B h:cC):Prop:=
 ∀b o,(H b≠none\/(b∉X.ex/\∃o',X.s₀.heap.get? b=some o')\/∃p∈X.pn++pins,p.1=b)->b∉frs X.stack->h.get? b=some o->B.get? b=some o
def tryW(X:Cx)(pins:List (aa×Obj))(T:aa->St->Hp->Prop):ae->ao->Prop:=fun e s'=>
 ∃Z C B σ H,e=.ref Z/\Inv X pins σ H s'/\Fly B X.stack Z C s'.heap/\xI X pins H B s'.heap/\T C σ H
abbrev Cx.tr(X:Cx)(pins:List (aa×Obj))(T:aa->St->Hp->Prop):Cx:={X with xe:=tryW X pins T,pn:=X.pn++pins}
theorem Inv.tr(I:Inv X pins σ H s)(T:aa->St->Hp->Prop):Inv (X.tr pins T) [] σ H s:=
 ⟨⟨I.ok.mod,I.ok.kind,I.ok.glob,I.ok.blt,I.ok.above,I.ok.inj,I.ok.has,I.ok.cab,I.ok.hd,I.ok.frames,I.ok.stk,I.ok.exf,I.ok.bs,I.ok.bsz,I.ok.noex,I.ok.exfs,I.ok.funs,I.ok.frf⟩,I.os,I.bare,I.base,I.loc,I.cell,I.free,I.freeC,
  fun p hp=>I.pin p (by simpa using hp),I.hok,I.len⟩
theorem Inv.untr{Z:List (aa×Obj)}(I:Inv (X.tr pins T) Z σ H s):Inv X pins σ H s:=
 ⟨⟨I.ok.mod,I.ok.kind,I.ok.glob,I.ok.blt,I.ok.above,I.ok.inj,I.ok.has,I.ok.cab,I.ok.hd,I.ok.frames,I.ok.stk,I.ok.exf,I.ok.bs,I.ok.bsz,I.ok.noex,I.ok.exfs,I.ok.funs,I.ok.frf⟩,I.os,I.bare,I.base,I.loc,I.cell,I.free,I.freeC,
  fun p hp=>I.pin p (gZ _ hp),I.hok,I.len⟩
theorem CJ{h h':cC}{c:aa}{v:Option ae}(x:h.IsCell c v)(sm:h.UpToSlots h'):h'.IsCell c v:=by
 obtain⟨o,ho,hd⟩:=x;obtain⟨sl,e⟩:=sm c o ho (fun vs q=>by rw[hd]at q;cases q);exact{_,e,hd}
theorem Inv.landed{B h':cC}(I:Inv X pins σ H s)(W:B.StaysIn h')(Z:xI X pins H B s.heap)(sm:s.heap.UpToSlots h'):Inv X pins σ H {s with heap:=h'}:=by
 refine{I.ok,I.os,I.bare,{fun b o e n hb hx=>?_,fun b o e n hb hx=>?_,I.base.free,fun b o e hx=>?_,I.base.tups,I.base.frzs,I.base.tbls},?_,fun x c e=>?_,I.free,I.freeC,fun p hp=>?_,I.hok.left W (fun b o n e=>Z b o (.inl n) (I.ntr b n) e),I.len}
 ·exact W b o (Z b o (.inr (.inl ⟨hx,o,e⟩)) (fun z=>hb (I.oldfs b o e z)) (I.base.keep b o e n hb hx))
 ·obtain⟨O,e1⟩:=I.base.slot b o e n hb hx;obtain⟨s2,Y⟩:=I.slotsOf sm b hb _ e1;exact⟨s2,Y⟩
 ·obtain⟨o',V⟩:=I.base.there b o e hx
  by_cases hb:b∈frs X.stack
  ·obtain⟨s2,Y⟩:=I.slotsOf sm b (I.oldfs b o e hb) _ V;exact{_,Y}
  ·exact{o',W b o' (Z b o' (.inr (.inl ⟨hx,o,e⟩)) hb V)}
 ·obtain⟨m,U,hl⟩:=I.loc;refine{m,sm.ns U,fun i x v e1 Y e3=>?_};obtain⟨u,r,l⟩:=hl i x v e1 Y e3;refine{u,r,?_}
  rcases l with l|⟨k,c,e,l⟩
  ·exact .inl l
  ·exact .inr {k,c,e,CJ l sm}
 ·obtain⟨v,q⟩:=I.cell x c e;exact{v,CJ q sm}
 ·obtain⟨e,n,l,f,d⟩:=I.pin p hp;exact{W _ _ (Z p.1 p.2 (.inr (.inr ⟨p,hp,rfl⟩)) (fun z=>(ar.mp (I.stkSub _ z)).elim l f) e),n,l,f,d}
theorem xI.land{B h':cC}(I:Inv X pins σ H s)(V:B.StaysIn h')(Z:xI X pins H B s.heap):xI X pins H B h':=fun b o c n e=>by
 obtain⟨Y,e1⟩:∃Y,s.heap.get? b=some Y:=by
  rcases c with c|⟨hx,o',c⟩|⟨p,hp,rfl⟩
  ·exact I.hok.has c
  ·exact I.base.there b o' c hx
  ·exact{_,(I.pin p hp).1}
 have W:=V b Y (Z b Y c n e1);rw[e]at W
 cases W;exact Z b _ c n e1
abbrev Cx.hdl(X:Cx)(Z:aa):Cx:={X with A:=X.A.mark (some (.ref Z)),calm:=false,xe:=fun _ _=>False}
theorem Inv.hdl(I:Inv X pins σ H s)(Z:aa):Inv (X.hdl Z) pins σ H s:=
 ⟨{I.ok.mod,I.ok.kind,I.ok.glob,I.ok.blt,I.ok.above,I.ok.inj,I.ok.has,I.ok.cab,fun z=>vH z,I.ok.frames,I.ok.stk,I.ok.exf,I.ok.bs,I.ok.bsz,I.ok.noex,I.ok.exfs,I.ok.funs,I.ok.frf},I.os,I.bare,I.base,I.loc,I.cell,I.free,I.freeC,
  I.pin,I.hok,I.len⟩
theorem Inv.unhdl{Z:aa}(ok:X.Ok)(I:Inv (X.hdl Z) pins σ H s):Inv X pins σ H s:=⟨ok,I.os,I.bare,I.base,I.loc,I.cell,I.free,I.freeC,I.pin,I.hok,I.len⟩
abbrev TH:=aa->TS
def PHs(X:Cx)(hs:List mh)(th:TH):Prop:=
 ∀(pins:List (aa×Obj)) (s:ao) (σ:St) (H:Hp) (D:nv) (Z C:aa) (B:cC),Inv X pins σ H s->Fly B X.stack Z C s.heap->xI X pins H B s.heap->th C D σ H ->
  aX (bA X.prog X.w) X.A (handleBy (.ref Z) X.env hs) (SP X pins D) X.xe s
def thNil:TH:=fun _ _ _ _=>False
theorem CO:PHs X [] thNil:=fun _ _ _ _ _ _ _ _ _ _ _ h=>h.elim
def tTry(T:aa->St->Hp->Prop)(tb:TS)(th:TH):TS:=fun D σ H=>tb D σ H/\∀C Z H',Z.length=σ.length->T C Z H'->th C D Z H'
theorem Ny{W:List cX}{h₀:mh}{hs:List mh}{pos:Pos}{tb:TS}{th:TH}(T:aa->St->Hp->Prop)(hb:∀pins,PSs (X.tr pins T) W tb)(hh:PHs X (h₀::hs) th)
  (hst:X.stack=X.env::X.outer:=by rfl) (O:X.env.frame=some X.env.locals:=by rfl):PS X (.Try W (h₀::hs) [] [] pos) (tTry T tb th):=by
 intro pins s σ H D I h;obtain⟨h1,h2⟩:=h;refine wpAny_Try_except (eK (hb pins [] s σ H D (I.tr T) h1) (fun f z q=>?_) (fun e z q=>?_))
 ·cases f with
  |next=>obtain⟨Z,H',J,q⟩:=q;exact nA ⟨Z,H',J.untr,q⟩
  |ret v=>obtain⟨v,Z,H',J,r,q⟩:=q;exact⟨v,Z,H',J.untr,r,q⟩
  |brk=>obtain⟨Z,H',J,q⟩:=q;exact⟨Z,H',J.untr,q⟩
  |cont=>obtain⟨Z,H',J,q⟩:=q;exact⟨Z,H',J.untr,q⟩
 ·obtain⟨g,C,B,Z,H',rfl,J,fl,V,t⟩:=q;have U:FlD B (X.env::X.outer) g (.ref C) .none z.heap:=by
   rw[<- hst];exact fl
  refine y9 (by rw[J.ok.frames,hst]) O U fun h4 x4 s4=>?_;refine qy x4 fun h5 Y s5=>?_;have J5:=J.landed Y.1 V (s4.trans s5);rw[<- hst]at Y;exact hh pins _ Z H' D g C B J5 Y (xI.land J Y.1 V) (h2 C Z H' (by rw[J.len,I.len]) t)
def CQ(CX:CXT)(X:Cx)(E:St->XK):Prop:=∀(pins:List (aa×Obj)) (σ:St) (H:Hp) (s:ao) (e:ae) (s':ao),Inv X pins σ H s->CX X.stack H s (E σ) e s'->X.xe e s'
def tryE(T:aa->St->Hp->Prop):St->XK:=fun σ c _ H=>∃C,c=.ref C/\T C σ H
theorem wM:CQ (CXo X.prog X.w) (X.tr pins T) (tryE T):=fun Z σ H s e s' I h=>by
 obtain⟨V,C,H',B,rfl,⟨O,U,q⟩,os,bare,un,hok,fl,Y⟩:=h
 cases U;have J:Inv (X.tr pins T) Z σ H' s':=I.call' (ch:=[]) os un hok bare (fun b z=>absurd z (by simp));refine{V,C,B,σ,H',rfl,J.untr,fl,fun b o c n e=>Y b o ?_ n e,q}
 rcases c with c|⟨c1,o',W⟩|⟨p,hp,rfl⟩
 ·exact .inl c
 ·exact .inr (I.base.there b o' W c1)
 ·exact .inr {_,(I.pin p (gZ _ hp)).1}
def Nz(sp:Sp)(E:St->XK)(t:TA):TE:=fun σ H Q=>t σ H fun vs H1=>sp vs H1 Q (E σ)
variable{CX:CXT}{k:Nat}{f:aa}{fd:bX}{ps:List Str}{sp:Sp}{E:St->XK}{x:Str}{p pos:Pos}{e:cU}{es:List cU}{t:TA}
theorem Ah(F:bL X.prog X.w X.K X.mg X.base CX k f fd ps sp)(hr:cZ k X.A)(J:Gl X x)(hm:X.mg x=some (.ref f))(hk:gF X.K (.ref f)=true)(hb:Binds X.K fd ps [])(hx:CQ CX X E)(ha:PA X (e::es) t)
  (V:(x==("__debug__":Str))=false:=by decide) (O:cK (e::es) X.env=(false,gf e X.env)::cK es X.env:=by rfl) (U:(jj pos (cK es X.env)).any (·.1)=false:=by rfl) :
  PE X (.Call (.Name x p) (e::es) [] pos) (Nz sp E t):=by
 intro pins s σ H Q I h;refine iD (qY I J hm ?_ V);refine lI (h₀:=X.base) I.ok.mod.kin hk (thn (ha pos pins s σ H _ I h) fun us W z=>?_) O U;obtain⟨vs,H1,Y,r,q⟩:=z;refine{Y.kIn,?_};have hl:(us++[]).length=ps.length:=by
  rw[cL,<- r.length];exact F.len _ _ _ _ q
 have Z:=hb W us Y.kIn hl;rw[cL]at Z;refine sI (oj (F.run X.A X.stack W H1 {us,[]} us vs Q (E σ) hr Y.env0 Z r q) fun r s' hq=>?_)
 cases r with
 |error e=>exact hx pins σ H1 W e s' Y hq
 |ok fl=>
  cases fl with
  |ret u=>exact Y.after hq
  |next=>exact cY hq
  |brk=>exact cY hq
  |cont=>exact cY hq
end
theorem Fun.okX{P:aM}{w:bO}{K:af}{mg:Str->Option ae}{base:cC}{x Z:Str}{st:cX}{f:aa}{fd:bX}{N ps:List Str}{k:Nat}{sp:Sp}(F:Fun K x Z st f fd)(S:bN N ps (aL st))(len:∀vs H Q E,sp vs H Q E->vs.length=ps.length)
  (W:∀(Y:ae) (A:cj) (outer:List Env) (s:ao) (H:Hp) (vs:List V) (Q:VK) (E:XK),cZ k (A.deeper (uu Z (aL st) s.heap.objs.size f Y))->sp vs H Q E ->
   ∃t,PSs (uq (CXo P w) P w K mg base N Z (aL st) f Y A outer s H E) (jf st) t/\t {nx:=fun _ H'=>Q .non H',rt:=Q} (start N vs) H):bL P w K mg base (CXo P w) (k+1) f fd ps sp:=by
 obtain⟨oc,od,kV,D,z,g,Y,ct,J,rfl,I,U⟩:=F.ex;exact Lr I U S len fun A outer s H vs Q E hr O=>W Y A outer s H vs Q E hr O
theorem za{prog:aM}{w:bO}{A:cj}{R:FN->ao->Prop}{s:ao}{O Z W:cU}{V:List cU}{Y:mi}{pos:Pos}{it U:ae}{env:Env}(J:Nat->ao->Prop)
  (turn:∀n s,J n s->aX (bA prog w) A (pyNext it) (fun r H=>match r with
   |none=>R (.ok .next) H
   |some v=>aX (bA prog w) A (sW Z it v) (fun _ s2=>aX (bA prog w) A (yK Z env v) (fun _ s3=>
     aX (bA prog w) A (forIn V true fun c r=>if r=true then do let ok <- Fz c env (gf c env);pure (ForInStep.yield ok) else pure (ForInStep.yield r)) (fun ok I=>
      if ok=true then aX (bA prog w) A (gf O env) (fun x D=>aX (bA prog w) A (xw (.builtin "list.append") [U,x]) (fun _ s6=>∃m,m<n/\J m s6) (fun _ _=>False) D) (fun _ _=>False) I
      else ∃m,m<n/\J m I) (fun _ _=>False) s3) (fun _ _=>False) s2) (fun _ _=>False) H) (fun _ _=>False) s)
  (n:Nat) (h:J n s):oh (bA prog w) A (.compLoop (.ListComp O [{Z,W,V,0}] Y pos) 0 it U env) R s:=by
 refine codeAny_loop rfl J (fun n s hI=>?_) n h;show aX _ A ((compTurn (.ListComp O [{Z,W,V,0}] Y pos) 0 it U env).onRaise
  (fun x=>do Fq x env;theTreesLotGoes x)) _ _ s
 refine wpAny_noted ?_;rw[compTurn_list];refine ai (Ep (ai (eK (turn n s hI) (fun r H h1=>?_) fun _ _ z=>z.elim)))
 cases r with
 |none=>exact aO h1
 |some v=>
  refine ai (eK h1 (fun _ s2 h2=>?_) fun _ _ z=>z.elim);refine ai (eK h2 (fun _ s3 h3=>?_) fun _ _ z=>z.elim);refine ai (eK h3 (fun ok I g=>?_) fun _ _ z=>z.elim)
  cases ok with
  |false=>exact aO ⟨rfl,g⟩
  |true=>
   refine ai (ai (eK g (fun x D h5=>?_) fun _ _ z=>z.elim));exact ai (eK h5 (fun _ s6 h6=>aO (aO ⟨rfl,h6⟩)) fun _ _ z=>z.elim)
theorem Ai{env:Env}:∀{names:List (Str×kO)} {x:Str},
  (names.map fun (n,k)=>if (k==NameKind.free&&env.scope.kind==.function&&env.kindOf n==some .cell) then (n,NameKind.cell) else (n,k)).lookup x=some .local->names.lookup x=some .local
 | [],_,h=>by simp at h
 |(n,k)::r,x,h=>by
  have Z:=@Ai env r x;rw[cg]at h;dsimp only at h
  by_cases hc:(k==NameKind.free&&env.scope.kind==.function&&env.kindOf n==some .cell)=true
  ·rw[if_pos hc]at h
   cases hx:x==n with
   |true=>simp[cG,hx]at h
   |false=>
    simp only[cG,hx]at h |-;exact Z h
  ·rw[if_neg hc]at h
   cases hx:x==n with
   |true=>
    simp only[cG,hx]at h |-;exact h
   |false=>
    simp only[cG,hx]at h |-;exact Z h
theorem zb{env:Env}:∀{names:List (Str×kO)} {x:Str},
  ((names.map fun (n,k)=>if (k==NameKind.free&&env.scope.kind==.function&&env.kindOf n==some .cell) then (n,NameKind.cell) else (n,k)).lookup x=some .cell \/
   (names.map fun (n,k)=>if (k==NameKind.free&&env.scope.kind==.function&&env.kindOf n==some .cell) then (n,NameKind.cell) else (n,k)).lookup x=some .free)->names.lookup x=some .cell\/names.lookup x=some .free
 | [],_,h=>by simp at h
 |(n,k)::r,x,h=>by
  have Z:=@zb env r x;rw[cg]at h;dsimp only at h
  by_cases hc:(k==NameKind.free&&env.scope.kind==.function&&env.kindOf n==some .cell)=true
  ·rw[if_pos hc]at h;have hk:k=.free:=by
    have z:=(rQ.mp (rQ.mp hc).1).1;exact eq_of_beq z
   cases hx:x==n with
   |true=>
    simp only[cG,hx];rw[hk];exact .inr rfl
   |false=>
    simp only[cG,hx]at h |-;exact Z h
  ·rw[if_neg hc]at h
   cases hx:x==n with
   |true=>
    simp only[cG,hx]at h |-;exact h
   |false=>
    simp only[cG,hx]at h |-;exact Z h
def qz(env:Env):List (Str×kO)->List (Str×aa)->List (Str×aa)
 | [],cs=>cs
 |(n,k)::r,cs=>qz env r (if k=.free then (match env.cells.lookup n with|some c=>(n,c)::cs|none=>cs) else cs)
theorem Aj{env:Env}:∀(names:List (Str×kO)) (cs:List (Str×aa)),(∀y∈names,y.2=.free->∃c,env.cells.lookup y.1=some c) ->
  (forIn names cs fun x r=>(do
   if (x.2==NameKind.free)=true then do
    let c <- cellOf env x.1
    pure (ForInStep.yield ((x.1,c)::r))
   else pure (ForInStep.yield r):Sem (ForInStep (List (Str×aa)))))=(pure (qz env names cs):Sem (List (Str×aa)))
 | [],cs,_=>rfl
 |(n,k)::r,cs,h=>by
  have W:=fun Z=>Aj r Z (fun y hy=>h y (ak _ hy));rw[List.forIn_cons]
  by_cases hk:k=.free
  ·subst hk;obtain⟨c,hc⟩:=h _ aC rfl;have e1:cellOf env n=pure c:=by
    unfold cellOf;rw[show env.cells.lookup n=some c from hc]
   have Y:qz env ((n,.free)::r) cs=qz env r ((n,c)::cs):=by
    show qz env r (if NameKind.free=.free then (match env.cells.lookup n with|some c=>(n,c)::cs|none=>cs) else cs)=_;rw[if_pos rfl,show env.cells.lookup n=some c from hc]
   rw[Y,<- W];simp[e1]
  ·have Y:qz env ((n,k)::r) cs=qz env r cs:=by
    show qz env r (if k=.free then _ else cs)=_;rw[if_neg hk]
   rw[Y,<- W];have e3:(k==NameKind.free)=false:=by
    cases k<;>first|rfl|exact absurd rfl hk
   simp[e3]
theorem Ak{env:Env}:∀{names:List (Str×kO)} {cs:List (Str×aa)} {n:Str} {c:aa},(∀n c,cs.lookup n=some c->env.cells.lookup n=some c)->(qz env names cs).lookup n=some c->env.cells.lookup n=some c
 | [],_,_,_,h,e=>h _ _ e
 |(m,k)::r,cs,n,c,h,e=>by
  refine Ak (names:=r) (fun W Y Z=>?_) e
  by_cases hk:k=.free
  ·rw[if_pos hk]at Z
   cases hm:env.cells.lookup m with
   |none=>
    rw[hm]at Z;exact h _ _ Z
   |some d=>
    rw[hm]at Z;dsimp only at Z;rw[cG]at Z
    split at Z
    ·rename_i z
     rw[eq_of_beq z,hm];exact Z
    ·exact h _ _ Z
  ·rw[if_neg hk]at Z;exact h _ _ Z
theorem yd{env:Env}:∀(names:List (Str×kO)) (cs:List (Str×aa)) (n:Str),(∃c,cs.lookup n=some c)->∃c,(qz env names cs).lookup n=some c
 | [],_,_,h=>h
 |(m,k)::r,cs,n,h=>by
  refine yd r _ n ?_
  by_cases hk:k=.free
  ·rw[if_pos hk]
   cases hm:env.cells.lookup m with
   |none=>exact h
   |some d=>
    dsimp only;rw[cG]
    split
    ·exact{_,rfl}
    ·exact h
  ·rw[if_neg hk];exact h
theorem Al{env:Env}:∀{names:List (Str×kO)} {cs:List (Str×aa)} {n:Str},(n,NameKind.free)∈names->(∃c,env.cells.lookup n=some c)->∃c,(qz env names cs).lookup n=some c
 | [],_,_,h,_=>by cases h
 |(m,k)::r,cs,n,h,hc=>by
  rcases ar.mp h with e|e
  ·obtain⟨e1,Z⟩:=Prod.mk.inj e;subst e1 Z;obtain⟨c,hc⟩:=hc;refine yd r _ n {c,?_};rw[if_pos rfl,hc];dsimp only;rw[cG,beq_self_eq_true]
  ·exact Al (names:=r) e hc
structure iX(X:Cx)(scope:mi)(NN:List Str):Prop where
 nocell:∀y∈scope.names,y.2≠.cell
 kind:scope.kind=.function
 names:∀y∈scope.names,y.2=.local->scope.names.lookup y.1=some .local
 far:∀y∈scope.names,y.2=.free->X.env.kindOf y.1=some .cell\/X.env.kindOf y.1=some .free
 len:NN.length=X.N.length
 apart:∀(i:Nat) (n:Str),NN[i]?=some n->scope.names.lookup n≠some .local/\(X.N[i]?=some n\/scope.names.lookup n=none)
theorem iX.closed{X:Cx}{Z:mi}(Y:∀y∈Z.names,y.2≠.free)(hc:∀y∈Z.names,y.2≠.cell)(hk:Z.kind=.function)(W:∀y∈Z.names,y.2=.local->Z.names.lookup y.1=some .local)
  (ha:∀n∈X.N,Z.names.lookup n≠some .local):iX X Z X.N where
 nocell:=hc
 kind:=hk
 names:=W
 far:=fun y hy e=>absurd e (Y y hy)
 len:=rfl
 apart:=fun i n e=>{ha n (cB e),.inl e}
theorem iX.open{X:Cx}{Z:mi}{NN N:List Str}{sc:mi}(V:X.N=N)(Y:X.env.scope=sc)(hc:∀y∈Z.names,y.2≠.cell)(hk:Z.kind=.function)(U:∀y∈Z.names,y.2=.local->Z.names.lookup y.1=some .local)
  (O:∀y∈Z.names,y.2=.free->sc.names.lookup y.1=some .cell) (hl:NN.length=N.length) (ha:∀p∈NN.zip N,Z.names.lookup p.1≠some .local/\(p.2=p.1\/Z.names.lookup p.1=none)):iX X Z NN where
 nocell:=hc
 kind:=hk
 names:=U
 far:=fun y hy e=>.inl (by have z:=O y hy e;rw[<- Y]at z;exact z)
 len:=by rw[V];exact hl
 apart:=fun i n e=>by
  have lt:i<N.length:=by rw[<- hl];exact (aG.mp e).1
  have W:N[i]?=some N[i]:=aH lt;have z:=ha (n,N[i]) (cB (i:=i) (by rw[zc];exact⟨e,W⟩));refine{z.1,?_}
  rcases z.2 with z|z
  ·left
   rw[V,W];exact congrArg some z
  ·exact .inr z
abbrev cxC(X:Cx)(Z:mi)(V:List Str)(fp:List aa)(W:ao)(Y:Hp)(C:aa):Cx:=
 {X with N:=V,s₀:=W,H₀:=Y,env:=compEnvC Z (qz X.env Z.names []) C X.env,outer:=X.stack,ex:=fp,fn:=fun _=>false,pn:=[],xe:=fun _ _=>False}
def PTs(X:Cx)(Z:List cU)(t:TT):Prop:=
 ∀(pins:List (aa×Obj)) (s:ao) (σ:St) (H:Hp) (Q:Bool->Hp->Prop),Inv X pins σ H s->t σ H Q ->
  aX (bA X.prog X.w) X.A (forIn Z true fun c r=>if r=true then do let ok <- Fz c X.env (gf c X.env);pure (ForInStep.yield ok) else pure (ForInStep.yield r)) (TP X pins σ Q) X.xe s
def xJ:TT:=fun _ H Q=>Q true H
theorem lu{X:Cx}:PTs X [] xJ:=fun pins s σ H Q I h=>wpAny_tests_nil ⟨H,I,h⟩
def wN(n:Nat)(D:TI)(g:TG)(tc:TT)(te:TE):TE:=fun σ H Q=>D σ H fun J H1=>∃W:Nat->Nat->List V->Hp->Prop,(∃m,W 0 m [] H1)/\∀i m ys H,W i m ys H->ys.length<aB /\
 ((J.stop i H/\∀p,H p=none->Q (.ref p) (upd H p (.lst ys))) \/
  (J.go i H/\∃N:List V->Hp->Prop,(∀Y H',N Y H'->∃O,O<m/\W (i+1) O Y H')/\∀x H',J.yld i H x H'->g x (cI n none++σ) H' fun Z H2=>Z.drop n=σ/\tc Z H2 fun b U=>
   if b=true then te Z U fun y I=>N (ys++[y]) I else N ys U))
section
variable{X:Cx}
theorem Am{σ Z:St}{n:Nat}(h:Z.drop n=σ)(i:Nat)(v:V)(e:(cI n none++σ)[i]?=some (some v)):Z[i]?=some (some v):=by
 by_cases hi:i<n
 ·rw[eQ (by simpa using hi),pS,if_pos hi]at e
  cases e
 ·rw[df (by simpa using hi),kA]at e;rw[<- h,Fs]at e;rw[show n+(i-n)=i by omega]at e;exact e
theorem An{gl O hL:cU}{gw:List cU}{Z:mi}{NN:List Str}{pos pos':Pos}{wi:TI}{g:TG}{tc:TT}{te:TE}{use:Option (ae->Sem Unit)}{Qv:ae->ao->Prop}(own:List Str)(ok:iX X Z NN)(hc:X.calm=true)(hi:PI X O hL wi)
  (hg:∀fp hQ hR C,PG (cxC X Z (own++NN) fp hQ hR C) O g) (ht:∀fp hQ hR C,PTs (cxC X Z (own++NN) fp hQ hR C) gw tc) (he:∀fp hQ hR C,PE (cxC X Z (own++NN) fp hQ hR C) gl te)
  (hs:∀x,p7 hL X.env x=pure x) {pins:List (aa×Obj)} {s:ao} {σ:St} {H:Hp} {Q:VK} (I:Inv X pins σ H s) (h:wN own.length wi g tc te σ H Q)
  (ft:∀(s4:ao) (C D:aa) (H':Hp) (m:Str->Option ae),s4.heap.Ns C m->Inv X pins σ H' s4->H' C=none->C≠X.env.locals->X.s₀.heap.objs.size<=C->(∀x c,X.env.cells.lookup x=some c->c≠C)->(∀p∈X.pn++pins,p.1≠C)->Q (.ref D) H' ->
   compPost (bA X.prog X.w) X.A X.xe use Qv (.ref D) C (.ok .next) s4) :
  aX (bA X.prog X.w) X.A (comprehension (.ListComp gl [{O,hL,gw,0}] Z pos) Z X.env pos' (newList []) false (gf hL X.env) use) Qv X.xe s:=by
 have fo:∀y∈Z.names,y.2=.free->∃c,X.env.cells.lookup y.1=some c:=fun y hy e=>I.ok.has _ (ok.far y hy e);have hF:closureFor Z X.env=pure (qz X.env Z.names []):=by
  unfold closureFor;rw[<- Aj Z.names [] fo];simp
 have Y:∀n c,(qz X.env Z.names []).lookup n=some c->X.env.cells.lookup n=some c:=fun n c e=>Ak (fun n c e=>by simp at e) e;have hH:∀n,(Z.names.lookup n=some .cell\/Z.names.lookup n=some .free)->(∃c,(qz X.env Z.names []).lookup n=some c)/\(X.env.kindOf n=some .cell\/X.env.kindOf n=some .free):=fun n e=>by
  rcases e with e|e
  ·exact absurd rfl (ok.nocell _ (gy e))
  ·have m:=gy e;exact{Al m (fo _ m rfl),ok.far _ m rfl}
 refine wpAny_comprehension_free (use:=use) rfl hs hF ok.kind ok.names (thn (hi pins s σ H _ I h) fun xv s1 h1=>thn h1 fun el s2 h2=>?_);obtain⟨it,fp,tn,J,H2,e,I2,T,gt,f2,W,⟨m0,w0⟩,turn⟩:=h2;subst e;have hG:∀b∈fp,b<s2.heap.objs.size:=fun b hb=>by
  obtain⟨o,e,_⟩:=T.obj _ _ gt b hb;exact aP e
 refine i9 (wpAny_newFunctionEnv ok.nocell (by intro y hy;simp at hy) (fun h1 gq hA=>?_) ok.kind);dsimp only at gq hA |-;generalize hP:s2.heap.push {cls:=.type "list",dict:=none,data:=.seq ([]:List ae).toArray}=P at gq hA |-;have hC:P.objs.size=s2.heap.objs.size+1:=by rw[<- hP,rO]
 have fk:s2.heap.objs.size≠P.objs.size:=by rw[hC];exact aQ (wD _)
 have hK:s2.heap.objs.size<=P.objs.size:=by rw[hC];exact gm _
 have old:∀b o,s2.heap.get? b=some o->h1.get? b=some o:=fun b o e=>
  hA.extBut b o (by rw[hC];exact aQ (iL (aP e))) (aJ _ (hP ▸ aJ _ e))
 have gM:h1.get? s2.heap.objs.size=some {cls:=.type "list",data:=.seq ([]:List ae).toArray 0}:=hA.extBut _ _ fk (aJ _ (hP ▸ cz _ rfl))
 -- the block's context is well made
 have gd:(cxC X Z (own++NN) fp s2 H2 P.objs.size).Ok:=by
  refine⟨I.ok.mod,ok.kind,I.ok.glob,I.ok.blt,by show s2.heap.objs.size<=P.objs.size;omega,fun y z c a b=>I.ok.inj y z c (Y _ _ a) (Y _ _ b),fun y hy=>(hH y (zb hy)).1,fun y c z _=>vH z,I.ok.hd,I.ok.frames,.inl rfl,
   fun b hb=>{fun z=>?_,fun y c e=>(f2 b hb).2.2.2.2.1 y c (Y _ _ e)},I2.bs,dB I.ok.bsz I2.sz,fun b o e hb=>?_,fun b hb z=>?_,I2.stack,I2.stkFree⟩
  ·exact aQ (bM (hG b hb) hK) z
  ·rcases (f2 b hb).2.2.2.1 with q|q
   ·exact I.ok.noex b o e q
   ·exact absurd (bM (aP e) (dB I.ok.bsz q)) (hW _)
  ·rcases ar.mp (I2.stkSub b z) with q|q
   ·exact (f2 b hb).2.1 q
   ·exact (f2 b hb).2.2.1 q
 have fpOk:∀{H':Hp} {o:Obj},(∀b∈fp,H' b=none)->∀b∈fp,yN (cxC X Z (own++NN) fp s2 H2 P.objs.size) [(s2.heap.objs.size,o)] H' b:=fun {H' o} hn b hb=>by
  have lt:=hG b hb;refine{hn b hb,fun z=>?_,fun z=>gd.exfs b hb z,.inl hb,fun y c e=>(gd.exf b hb).2 y c e,fun p hp z=>?_}
  ·exact aQ (bM lt hK) z
  ·have gr:p=(s2.heap.objs.size,o):=by simpa using hp
   subst gr;exact aQ lt (Eq.symm z)
 have hE:∀y c,(qz X.env Z.names []).lookup y=some c->c<s2.heap.objs.size:=fun y c e=>by
  obtain⟨v,q⟩:=I2.cell y c (Y _ _ e);exact q.lt
 have start:Inv (cxC X Z (own++NN) fp s2 H2 P.objs.size) [] (cI own.length none++σ) H2 {s2 with heap:=h1,toks:=s2.toks+([]:List (Str×ae)).length}:=by
  refine{gd,rfl,I2.bare,Un.kept old,{_,gq,fun i y v e1 e2 e3=>?_},fun y c e=>?_,I2.hok.fresh (by show s2.heap.objs.size<=P.objs.size;omega),fun y c e=>I2.freeC y c (Y _ _ e),fun p hp=>absurd (show p∈([]:List (aa×Obj)) from by simpa using hp) (by simp),I2.hok.kept old,?_}
  ·by_cases hi:i<own.length
   ·rw[eQ (by simpa using hi),pS,if_pos hi]at e2
    cases e2
   ·have eL:NN[i-own.length]?=some y:=by
     have z:(own++NN)[i]?=some y:=e1;rw[df (by omega)]at z;exact z
    rw[df (by simpa using hi),kA]at e2;obtain⟨eo,eF⟩:=ok.apart _ y eL
    rcases e3 with e3|e3
    ·exact absurd (Ai e3) eo
    ·obtain⟨⟨c,fe⟩,kc⟩:=hH y (zb e3);have ez:X.N[i-own.length]?=some y:=by
      rcases eF with z|z
      ·exact z
      ·rcases zb e3 with q|q<;>(rw[z]at q;cases q)
     obtain⟨m,hn,hl⟩:=I2.loc;obtain⟨u,r,l⟩:=hl (i-own.length) y v ez e2 (.inr kc);refine{u,r,.inr {e3,c,fe,?_}}
     rcases l with⟨l,_⟩|⟨_,c',e',q⟩
     ·rcases kc with kc|kc<;>(rw[l]at kc;cases kc)
     ·rw[Y _ _ fe]at e'
      cases e';exact q.keeps old
  ·obtain⟨v,q⟩:=I2.cell y c (Y _ _ e);exact{v,q.keeps old}
  ·show (cI own.length none++σ).length=(own++NN).length;rw[ay,ay,kA,I2.len,ok.len]
 have hB:s2.heap.objs.size≠P.objs.size:=fk;have ey:s2.heap.objs.size∉frs X.stack:=fun z=>by
  rcases ar.mp (I2.stkSub _ z) with q|q
  ·exact aQ I2.lt (Eq.symm q)
  ·exact I2.nofs (ax _) q
 have hf:∀s₃:ao,s₃={s2 with heap:=h1,toks:=s2.toks+([]:List (Str×ae)).length} ->
   oh (bA X.prog X.w) X.A (.compLoop (.ListComp gl [{O,hL,gw,0}] Z pos) 0 (.ref it) (.ref s2.heap.objs.size) (compEnvC Z (qz X.env Z.names []) P.objs.size X.env))
    (compPost (bA X.prog X.w) X.A X.xe use Qv (.ref s2.heap.objs.size) P.objs.size) s₃:=by
  rintro s₃ rfl;refine za (fun n s'=>∃(i:Nat) (ys:List V) (H':Hp) (U:List ae) (k:Nat),Inv (cxC X Z (own++NN) fp s2 H2 P.objs.size) [] (cI own.length none++σ) H' s'/\tn i s'.heap/\(∀b∈fp,H' b=none)/\H' s2.heap.objs.size=none/\c9 ys U /\
   s'.heap.get? s2.heap.objs.size=some {cls:=.type "list",data:=.seq U.toArray k}/\W i n ys H') ?_ m0
   {0,[],H2,[],0,start,T.keep _ _ _ gt (fun b _ o e=>old b o e),fun b hb=>(f2 b hb).1,I2.hok.fresh (ax _),.nil,gM,w0}
  rintro n s3 ⟨i,ys,H3,U,k,I3,fG,fz,nD,rv,hD,w3⟩;have Ip:Inv (cxC X Z (own++NN) fp s2 H2 P.objs.size) [(s2.heap.objs.size,{cls:=.type "list",data:=.seq U.toArray k})] (cI own.length none++σ) H3 s3:=I3.pins_of fun p hp=>by
   have gr:p=(s2.heap.objs.size,{cls:=.type "list",data:=.seq U.toArray k}):=by simpa using hp
   subst gr;exact{hD,nD,hB,ey,fun v z=>by cases z}
  obtain⟨hl,hw⟩:=turn i n ys H3 w3
  rcases hw with⟨stop,fin⟩|⟨go,N,hN,step⟩
  ·refine thn (T.done (cxC X Z (own++NN) fp s2 H2 P.objs.size) rfl rfl rfl hc i _ s3 _ H3 _ Ip (fpOk fz) fG stop) fun r s4 z=>?_;obtain⟨hr,I4⟩:=z;subst hr;obtain⟨m,hn,_⟩:=I4.loc;have et:s4.heap.get? s2.heap.objs.size=some {cls:=.type "list",data:=.seq U.toArray k}:=(I4.pin _ (bj _ aC)).1;obtain⟨h',fx⟩:∃h',h'=s4.heap:={_,rfl};have hI:∀b o,b≠P.objs.size->s4.heap.get? b=some o->h'.get? b=some o:=fun b o hb e=>by rw[fx];exact e
   have hS:∀b o,s2.heap.get? b=some o->b≠P.objs.size/\b≠s2.heap.objs.size:=fun b o e=>by
    have lt:=aP e;exact{aQ (bM lt hK),aQ lt}
   have hT:∀b u,H3 b=some u->b≠P.objs.size/\b≠s2.heap.objs.size:=fun b u e=>by
    refine{fun z=>?_,fun z=>?_}
    ·have q:H3 P.objs.size=none:=I4.free;rw[<- z,e]at q
     cases q
    ·rw[z,nD]at e
     cases e
   have un:Un (frs X.stack) fp H2 (upd H3 s2.heap.objs.size (.lst ys)) s2.heap h':=by
    have B:=I4.base;refine{fun b o e q hb hx=>hI b o (hS b o e).1 (B.keep b o e q hb hx),fun b o e q hb hx=>?_,fun b o e q hx=>?_,fun b o e hx=>?_,fun b xs e=>?_,fun b o u e=>?_,fun b ps e=>?_}
    ·obtain⟨sl,e1⟩:=B.slot b o e q hb hx;exact{sl,hI _ _ (hS b o e).1 e1}
    ·rw[aN (hS b o e).2];exact B.free b o e q hx
    ·obtain⟨o',e1⟩:=B.there b o e hx;exact{o',hI _ _ (hS b o e).1 e1}
    ·have q:=B.tups b xs e;rw[aN (hT _ _ q).2];exact q
    ·have q:=B.frzs b o u e;rw[aN (hT _ _ q).2];exact q
    ·obtain⟨more,q⟩:=B.tbls b ps e;refine{more,?_};rw[aN (hT _ _ q).2];exact q
   have hok:HOk X.prog X.w (upd H3 s2.heap.objs.size (.lst ys)) h':=fun b u e=>by
    by_cases hb:b=s2.heap.objs.size
    ·subst hb;rw[aj]at e
     cases e;exact{mj hl,U,k,rv,hI _ _ hB et}
    ·rw[aN hb]at e;refine (I4.hok b u e).stay (fun c v hc q=>hI c v ?_ q) (fun c q=>?_) fun c xs q=>?_
     ·rcases hc with z|z
      ·rw[z];exact (hT _ _ e).1
      ·exact (hT _ _ z).1
     ·rw[aN (hT _ _ q).2];exact q
     ·rw[aN (hT _ _ q).2];exact q
   have J:=I2.call' (s':={s4 with heap:=h'}) (ch:=fp) I4.os un hok I4.bare fun b hb=>{(f2 b hb).2.2.2.1,(f2 b hb).2.1,(f2 b hb).2.2.2.2.1,(f2 b hb).2.2.2.2.2};subst fx;refine ft s4 P.objs.size s2.heap.objs.size (upd H3 s2.heap.objs.size (.lst ys)) m hn J ?_ ?_ ?_ (fun y c e=>?_) (fun q hq=>?_) (fin _ nD)
   ·rw[aN hB.symm];exact I4.free
   ·exact qg (bM I2.lt hK)
   ·exact dB I2.sz hK
   ·obtain⟨v,z⟩:=I2.cell y c e;exact aQ (bM z.lt hK)
   ·exact aQ (bM (aP (I2.pin q hq).1) hK)
  ·refine thn (T.item (cxC X Z (own++NN) fp s2 H2 P.objs.size) rfl rfl rfl hc i _ s3 _ H3 _ Ip (fpOk fz) fG go) fun r s4 z=>?_;obtain⟨u,hr,h4⟩:=z;subst hr;refine thn h4 fun _ s5 z=>?_;obtain⟨x,H5,I5,r5,y5,ge,fa⟩:=z;have eH:=I5.pinned (fpOk fa) (T.obj _ _ ge);refine thn (hg fp s2 H2 P.objs.size _ s5 _ H5 x u _ eH r5 (step x H5 y5)) fun _ s6 z=>?_;obtain⟨hO,H6,I6,fy,q6⟩:=z;refine thn (ht fp s2 H2 P.objs.size _ s6 hO H6 _ I6 q6) fun ew s7 z=>?_;obtain⟨H7,I7,q7⟩:=z;have hz:∀{H8:Hp} {s8:ao},Inv (cxC X Z (own++NN) fp s2 H2 P.objs.size) ([(s2.heap.objs.size,{cls:=.type "list",data:=.seq U.toArray k})]++uj fp s5.heap) hO H8 s8 ->
     s8.heap.get? s2.heap.objs.size=some {cls:=.type "list",data:=.seq U.toArray k}/\H8 s2.heap.objs.size=none:=fun I8=>by
    have z:=I8.pin (s2.heap.objs.size,{cls:=.type "list",data:=.seq U.toArray k}) (bj _ (gZ _ aC));exact⟨z.1,z.2.1⟩
   have hj:∀{H8:Hp} {s8:ao},Inv (cxC X Z (own++NN) fp s2 H2 P.objs.size) ([(s2.heap.objs.size,{cls:=.type "list",data:=.seq U.toArray k})]++uj fp s5.heap) hO H8 s8 ->
     tn (i+1) s8.heap/\∀b∈fp,H8 b=none:=fun {H8 s8} I8=>by
    refine{T.keep _ _ _ ge fun b hb o e=>(I8.pin (b,o) (bj _ (bj _ (oV hb e)))).1,fun b hb=>?_};obtain⟨o,e,_⟩:=T.obj _ _ ge b hb;exact (I8.pin (b,o) (bj _ (bj _ (oV hb e)))).2.1
   have ha:(cI own.length none++σ).length=hO.length:=by rw[I6.len,start.len]
   cases ew with
   |false=>
    have er:N ys H7:=q7;obtain⟨m',lt,w'⟩:=hN _ _ er;obtain⟨d1,d2⟩:=hz I7;obtain⟨p1,p2⟩:=hj I7;have J7:Inv (cxC X Z (own++NN) fp s2 H2 P.objs.size) [] hO H7 s7:=I7.pins_of (fun p hp=>absurd hp (by simp));exact{m',lt,i+1,ys,H7,U,k,J7.weak ha (Am fy),p1,p2,d2,rv,d1,w'}
   |true=>
    refine thn (he fp s2 H2 P.objs.size _ s7 hO H7 _ I7 q7) fun v8 s8 z=>?_;obtain⟨y,H8,I8,r8,n8⟩:=z;obtain⟨m',lt,w'⟩:=hN _ _ n8;obtain⟨d1,d2⟩:=hz I8;obtain⟨p1,p2⟩:=hj I8;refine append_at (hsz:=by rw[aF,<- rv.length];exact mj hl) d1 fun h9 sb em=>?_;have J8:Inv (cxC X Z (own++NN) fp s2 H2 P.objs.size) [] hO H8 s8:=I8.pins_of (fun p hp=>absurd hp (by simp));have J9:Inv (cxC X Z (own++NN) fp s2 H2 P.objs.size) [] hO H8 {s8 with heap:=h9}:=J8.turned (t':=s8.toks) (it:=s2.heap.objs.size) (fun b o hb e=>sb.extBut b o hb e) d2 hB (.inr (ax _)) (fun y c e=>aQ (hE y c e)) (fun p hp=>absurd hp (by simp));refine{m',lt,i+1,ys++[y],H8,U++[v8],k+1,J9.weak ha (Am fy),T.keep _ _ _ p1 (fun b hb o e=>sb.extBut b o (aQ (hG b hb)) e),p2,d2,rv.append (.cons r8 .nil),?_,w'};show h9.get? _=_;rw[em,List.push_toArray]
 exact codeAny_compStart_list (hf _ rfl) (T.self X.A 0 _ _ _ (T.keep _ _ _ gt (fun b _ o e=>old b o e)) (hf _ rfl))
theorem o7{O Y U:cU}{z:List cU}{Z:mi}{NN:List Str}{pos:Pos}{wi:TI}{g:TG}{tc:TT}{te:TE}(own:List Str)(ok:iX X Z NN)(hc:X.calm=true)(hi:PI X Y U wi)
  (hg:∀fp W V C,PG (cxC X Z (own++NN) fp W V C) Y g) (ht:∀fp W V C,PTs (cxC X Z (own++NN) fp W V C) z tc) (he:∀fp W V C,PE (cxC X Z (own++NN) fp W V C) O te)
  (hs:∀x,p7 U X.env x=pure x:=by intro _;rfl):PE X (.ListComp O [{Y,U,z,0}] Z pos) (wN own.length wi g tc te):=by
 intro pins s σ H Q I h;rw[eval_ListComp];refine An (use:=none) own ok hc hi hg ht he hs I h fun s4 C D H' m hn J n1 n2 n3 n4 n5 q=>?_;exact{m,hn,fun h' sb=>{.ref D,H',J.turned (t':=s4.toks) (it:=C) (fun b o hb e=>sb.extBut b o hb e) n1 n2 (.inr n3) n4 n5,rfl,q}}
theorem CT{bI Y W:cU}{O:List cU}{Z:mi}{NN:List Str}{pos pos' bH:Pos}{wi:TI}{g:TG}{tc:TT}{te:TE}{i:Nat}{x:Str}(own:List Str)(ok:iX X Z NN)(hc:X.calm=true)(hN:X.N.Nodup)(bF:X.N[i]?=some x)(hx:Loc X.env.scope x)(hi:PI X Y W wi)
  (hg:∀fp V U C,PG (cxC X Z (own++NN) fp V U C) Y g) (ht:∀fp V U C,PTs (cxC X Z (own++NN) fp V U C) O tc) (he:∀fp V U C,PE (cxC X Z (own++NN) fp V U C) bI te)
  (hs:∀x,p7 W X.env x=pure x:=by intro _;rfl) (hf:X.fn x=true\/X.env.scope.names.lookup x=some .local:=by first|exact .inl rfl|exact .inr rfl|assumption)
  (bB:uR (.ListComp bI [{Y,W,O,0}] Z pos) (some (.Name x pos')) bH.line X.env=pure true:=by rfl):PS X (.Assign [.Name x pos'] (.ListComp bI [{Y,W,O,0}] Z pos) bH) (Jx (wN own.length wi g tc te) (Cj i)):=by
 intro pins s σ H D I h;rw[exec_Assign_Name_used _ _ _ _ bB];refine ai (Ep (ai ?_));show aX _ X.A (do let _ <- comprehension (.ListComp bI [{Y,W,O,0}] Z pos) Z X.env _ (newList []) false (gf W X.env) (some (yK (.Name x pos') X.env))) _ _ s;refine ai (eK (An (use:=some (yK (.Name x pos') X.env)) (Qv:=fun _ s'=>SP X pins D .next s') own ok hc hi hg ht he hs I h fun s4 C DD H' m hn J n1 n2 n3 n4 n5 q=>?_) (fun _ s' hq=>aO (aO hq)) fun _ _ e=>e);show aX _ X.A (yK (.Name x pos') X.env (.ref DD)) _ _ s4;refine OU (xU J hN bF hx (show RelV (.ref DD) (.ref DD) from rfl) (fun s' J' z=>?_) hf);obtain⟨a,sb,ha⟩:=z;have na:C≠a:=by
  rcases ha with ha|ha
  ·rw[ha];exact n2
  ·exact (n4 x a ha).symm
 refine{m,hn.at' fun o e=>sb.extBut C o na e,fun h' bG=>{_,H',J'.turned (t':=s'.toks) (it:=C) (fun b o hb e=>bG.extBut b o hb e) n1 n2 (.inr n3) n4 n5,q}}
end
section
variable{K:af}{a:aa}{xs:List V}{n:Nat}{g:TG}{tc:TT}{te:TE}{σ:St}{H:Hp}{Q:VK}
theorem ye(Y:Nat->List V->Hp->Prop)(h0:Y 0 [] H)(hl:∀i ys H,i<=xs.length->Y i ys H->SqL K H a xs/\ys.length<aB)
  (hs:∀i x ys H,xs[i]?=some x->Y i ys H->g x (cI n none++σ) H fun Z H2=>Z.drop n=σ/\tc Z H2 fun b O=>if b=true then te Z O fun y I=>Y (i+1) (ys++[y]) I else Y (i+1) ys O)
  (hd:∀ys H,Y xs.length ys H->∀p,H p=none->Q (.ref p) (upd H p (.lst ys))) :
  ∃W:Nat->Nat->List V->Hp->Prop,(∃m,W 0 m [] H)/\∀i m ys H,W i m ys H->ys.length<aB/\(((Itl K a).stop i H/\∀p,H p=none->Q (.ref p) (upd H p (.lst ys))) \/
   ((Itl K a).go i H/\∃N:List V->Hp->Prop,(∀U H',N U H'->∃D,D<m/\W (i+1) D U H')/\∀x H',(Itl K a).yld i H x H'->g x (cI n none++σ) H' fun Z H2=>Z.drop n=σ/\tc Z H2 fun b O=>
    if b=true then te Z O fun y I=>N (ys++[y]) I else N ys O)):=by
 refine{fun i m ys H=>m=xs.length-i/\i<=xs.length/\Y i ys H,{xs.length,by simp,cm _,h0},?_};rintro i m ys H ⟨rfl,hi,p⟩;obtain⟨q,z⟩:=hl i ys H hi p;refine{z,?_}
 by_cases J:i<xs.length
 ·refine .inr {{xs,xs[i],q,by simp[J]},Y (i+1),fun U H' p'=>{xs.length-(i+1),by omega,rfl,J,p'},fun x H' y=>?_};obtain⟨e,y⟩:=y;subst e;exact hs i x ys _ (y xs q) p
 ·have e:i=xs.length:=by omega
  subst e;exact .inl {{xs,q,ax _},hd ys H p}
theorem Gm(Y:Nat->List V->Hp->Prop)(h0:Y 0 [] H)(hl:∀i ys H,i<=xs.length->Y i ys H->SqT K H a xs/\ys.length<aB)
  (hs:∀i x ys H,xs[i]?=some x->Y i ys H->g x (cI n none++σ) H fun Z H2=>Z.drop n=σ/\tc Z H2 fun b O=>if b=true then te Z O fun y I=>Y (i+1) (ys++[y]) I else Y (i+1) ys O)
  (hd:∀ys H,Y xs.length ys H->∀p,H p=none->Q (.ref p) (upd H p (.lst ys))) :
  ∃W:Nat->Nat->List V->Hp->Prop,(∃m,W 0 m [] H)/\∀i m ys H,W i m ys H->ys.length<aB/\(((Itt K a).stop i H/\∀p,H p=none->Q (.ref p) (upd H p (.lst ys))) \/
   ((Itt K a).go i H/\∃N:List V->Hp->Prop,(∀U H',N U H'->∃D,D<m/\W (i+1) D U H')/\∀x H',(Itt K a).yld i H x H'->g x (cI n none++σ) H' fun Z H2=>Z.drop n=σ/\tc Z H2 fun b O=>
    if b=true then te Z O fun y I=>N (ys++[y]) I else N ys O)):=by
 refine{fun i m ys H=>m=xs.length-i/\i<=xs.length/\Y i ys H,{xs.length,by simp,cm _,h0},?_};rintro i m ys H ⟨rfl,hi,p⟩;obtain⟨q,z⟩:=hl i ys H hi p;refine{z,?_}
 by_cases J:i<xs.length
 ·refine .inr {{xs,xs[i],q,by simp[J]},Y (i+1),fun U H' p'=>{xs.length-(i+1),by omega,rfl,J,p'},fun x H' y=>?_};obtain⟨e,y⟩:=y;subst e;exact hs i x ys _ (y xs q) p
 ·have e:i=xs.length:=by omega
  subst e;exact .inl {{xs,q,ax _},hd ys H p}
end
end L2
namespace PySem
theorem zd:Nj (.type "list") "keys"=pure none:=by rw[typeLookup_type,builtinLookup_eq_fast];kernel_rfl
theorem Ao:entryFor table "dict.update.loop"=some ic.«dict.update.loop»:=entryFor_of_tree (by kernel_rfl)
section
variable{prog:aM}{w:bO}{A:cj}{E:ae->ao->Prop}{s:ao}
theorem JS{a:aa}{xs:Array ae}{k:Nat}{sl:Array (Option ae)}{Q:Option ae->ao->Prop}(hx:s.heap.get? a=some {cls:=.type "list",dict:=none,data:=.seq xs k,slots:=sl})(V:A.handled=none)
  (h:∀h' tk,(∀b o,s.heap.get? b=some o->h'.get? b=some o)->Q none {s with heap:=h',toks:=tk}):aX (bA prog w) A (JT (.ref a) "keys") Q E s:=by
 obtain⟨hp,g,d,tk,os⟩:=s;have W:∀Z,(⟨hp,g,d,Z,os⟩:ao).TypeIs (.ref a) "list":=fun _=>{_,hx,rfl};have f1:=sub_AttributeError;have O:=F.slot_list_getattribute.lookup;have H:=F.slot_list_getattribute.bind (.ref a);have I:=am_list_getattr_none;unfold JT getAttrBy? getAttrBy;have go:∀(u:Tok) (tk:Nat) (Q:ae->ao->Prop) (E:ae->ao->Prop),(∀h' Z e,Heap.NewAttrErr hp h' e (.ref a) "keys"->E (.ref e) ⟨h',g,d,Z,os⟩)->aX (bA prog w) A (xw (Value.builtin "list.__getattribute__") [.ref a,.str "keys" u]) Q E ⟨hp,g,d,tk,os⟩:=fun u tk Q E k1=>
  sJ F.slot_list_getattribute (W _) am_entry_list_getattribute (F.args_list_getattribute_2 _ _) (meets_getattribute_miss_list a xs k sl "keys" _ zd (by decide +kernel)) {hx,V,fun h' Z e Y=>k1 h' Z e Y}
 repeat (any_goals (first|assumption|exact W _|refine go _ _ _ _ (fun h' Z e Y=>?_)|wp_step))
 obtain⟨t',U,J⟩:=Y.there
 repeat (any_goals (first|assumption|wp_step))
 exact h _ _ Y.keeps
def BC{prog:aM}{w:bO}{K:Type}[DecidableEq K](knd:KeyKind prog w K)(h:cC)(p:K×ae)(x:ae):Prop:=
 ∃(a:aa) (Z:ae) (o:Obj) (n:Nat),x=.ref a/\h.get? a=some o/\o.cls=.type "tuple"/\o.data=.seq #[Z,p.2] n/\knd.is p.1 Z=true
variable{K:Type}[DecidableEq K]{knd:KeyKind prog w K}
theorem Gu{a:aa}{o:Obj}{n:Nat}{k v:ae}{Q:List ae->ao->Prop}(ho:s.heap.get? a=some o)(hc:o.cls=.type "tuple")(hd:o.data=.seq #[k,v] n)(h:Q [k,v] s):aX (bA prog w) A (vI (.ref a)) Q E s:=by
 unfold vI;have Z:s.TypeIs (.ref a) "tuple":=⟨o,ho,hc⟩;refine ai (FT Z ?_);rw[if_pos (by decide)];refine ai (wpAny_seqItems ho hd (aO ?_));exact h
theorem CV{R:FN->ao->Prop}{it l d:aa}{items:Array ae}{Z:ae}(hA:A.handled=none)(hl:l≠d)(hi:it≠d)(g:it≠l):∀(ps:List (K×ae)) (i:Nat) (kvs:List (K×ae)) (s:ao) (t:Tok) (z:Int),
  s.heap.IsListIter it l i->s.heap.IsList l items->s.heap.DictOf knd d kvs->aK (fun p x=>BC knd s.heap p x/\x≠.ref d/\x≠.ref it) ps (items.toList.drop i)->kvs.length+ps.length<=aB ->
  (∀h' tk,h'.DictOf knd d (ps.foldl (fun m p=>wI m p.1 p.2) kvs)->(∀b o,b≠d->b≠it->s.heap.get? b=some o->h'.get? b=some o)->R (.ok (.ret Z)) {s with heap:=h',toks:=tk}) ->
  oh (bA prog w) A (.builtin "dict.update.loop" {[.ref d,.ref it,.int z t,Z],[]}) R s
 | [],i,kvs,s,t,z,W,Y,hd,hp,hz,h=>by
  have dn:items.toList.drop i=[]:=by
   have e:=hp.length;exact List.length_eq_zero_iff.mp e.symm
  have hx:items[i]?=none:=by
   have e:=List.drop_eq_nil_iff.mp dn;simp only[fY]at e;exact Array.getElem?_eq_none e
  refine sX Ao ?_;unfold ic.«dict.update.loop»;dsimp only;refine ai (Jj hA W Y hx fun h' eb=>?_);dsimp only;refine ai ?_;unfold Builtin.Dict.addKeywords;refine aO ?_;refine aO (h h' _ (hd.extBut eb hi.symm) fun b o _ hb e=>eb b o hb e)
 |p::ps,i,kvs,s,t,z,W,Y,hd,hp,hz,h=>by
  cases e0:items.toList.drop i with
  |nil=>
   rw[e0]at hp
   cases hp
  |cons x r=>
   rw[e0]at hp
   cases hp with
   |cons h1 h2=>
    obtain⟨⟨a,kv,o,n,rfl,ho,hc,cp,hk⟩,nd,ni⟩:=h1;have hx:items[i]?=some (.ref a):=by
     have e:=congrArg (fun l=>l[0]?) e0;simpa using e
    have hr:items.toList.drop (i+1)=r:=by
     have e:=congrArg List.tail e0;simpa using e
    refine sX Ao ?_;unfold ic.«dict.update.loop»;dsimp only;refine ai (FE W Y hx fun dv O sb=>?_);dsimp only;refine ai (dU (ai (wpAny_tryCatch ?_)));have cv:a≠it:=fun q=>ni (by rw[q]);have ce:a≠d:=fun q=>nd (by rw[q]);refine Gu (s:={s with heap:=dv}) ((sb.2 a cv).trans ho) hc cp ?_;dsimp only;refine dU (wpAny_dictSet_pairs (s:={s with heap:=dv}) hk (hd.extBut sb.extBut hi.symm) (fun D dj H=>?_) (by simp only[aS]at hz;omega));refine aO {Ft _ (by decide +kernel),?_};have keep:∀b ob,b≠d->b≠it->s.heap.get? b=some ob->D.get? b=some ob:=fun b ob U V e=>H.extBut b ob U (sb.extBut b ob V e);refine CV (items:=items) hA hl hi g ps (i+1) (wI kvs p.1 p.2) {s with heap:=D,toks:=s.toks+1} _ _ ?_ ?_ dj ?_ ?_ ?_
    ·obtain⟨oi,ei,ci,di⟩:=O;exact{oi,H.extBut it oi hi ei,ci,di}
    ·obtain⟨ol,el,cl⟩:=Y;exact{ol,keep l ol hl g.symm el,cl}
    ·rw[hr];clear e0 hr h hz hd W O Y
     induction h2 with
     |nil=>exact .nil
     |cons q1 q2 ih=>
      refine .cons ?_ ih;obtain⟨⟨a',cr,o',n',rfl,de,da,I,dc⟩,J,dt⟩:=q1;exact{{a',cr,o',n',rfl,keep a' o' (fun q=>J (by rw[q])) (fun q=>dt (by rw[q])) de,da,I,dc},J,dt}
    ·have hs:(wI kvs p.1 p.2).length<=kvs.length+1:=by
      unfold wI
      split
      ·rw[au];omega
      ·simp
     simp only[aS]at hz;omega
    ·intro h' tk cx k';exact h h' tk cx fun b ob U V e=>k' b ob U V (keep b ob U V e)
theorem JU{l:aa}{items:Array ae}{k:Nat}{sl:Array (Option ae)}{ps:List (K×ae)}{Q:ae->ao->Prop}(I:A.handled=none)(hx:s.heap.get? l=some {cls:=.type "list",dict:=none,data:=.seq items k,slots:=sl})
  (hp:aK (BC knd s.heap) ps items.toList) (H:ps.length<=aB)
  (h:∀h' tk,h'.DictOf knd s.heap.objs.size (ps.foldl (fun m p=>wI m p.1 p.2) [])->(∀b o,s.heap.get? b=some o->h'.get? b=some o)->Q (.ref s.heap.objs.size) {s with heap:=h',toks:=tk}) :
  aX (bA prog w) A (xw (.type "dict") [.ref l]) Q E s:=by
 refine callType_codes (Q₁:=fun obj D=>obj=.ref s.heap.objs.size/\D={s with heap:=s.heap.push {cls:=.type "dict",data:=.dict #[]}}) F.kt_called_dict (F.kt_typeCall_dict_1 _) F.entry_dict_init (kt_code_dict_new _ ⟨rfl,rfl⟩) ?_;rintro obj D ⟨rfl,rfl⟩;have Z:(s.heap.push {cls:=.type "dict",data:=.dict #[]}).DictOf knd s.heap.objs.size []:=A5 s.heap;have up:∀b o,s.heap.get? b=some o->(s.heap.push {cls:=.type "dict",data:=.dict #[]}).get? b=some o:=fun b o e=>aJ _ e;have V:=aP hx;refine{Z.typeIs,F.args_dict_init_2 _ _,?_};unfold ic.«dict.__init__»;refine ai ?_;unfold Builtin.Dict.selfAndRest;refine ai (wpAny_notOrdered_dict Z.typeIs ?_);show aX _ _ (pure (s.heap.objs.size,[Value.ref l])) _ _ _;refine aO ?_;show aX _ _ (vw "dict.__init__" s.heap.objs.size (.ref l) [] .none) _ _ _;unfold vw;have hT:({s with heap:=s.heap.push {cls:=.type "dict",data:=.dict #[]}}:ao).TypeIs (.ref l) "list":={_,up _ _ hx,rfl};refine ai (FT hT ?_);rw[if_pos (by decide)];refine ai (JS (s:={s with heap:=s.heap.push {cls:=.type "dict",data:=.dict #[]}}) (up _ _ hx) I fun h1 O k1=>?_);rw[if_pos (by rfl)];refine ai (BD (ai ?_));have U:h1.IsList l items:={_,k1 _ _ (up _ _ hx),rfl,k,rfl};refine OV (s:={s with heap:=h1,toks:=O}) U ?_;have Y:s.heap.objs.size<h1.objs.size:=by
  obtain⟨o,_,_,e,_⟩:=Z;exact aP (k1 _ _ e)
 have W:∀b o,s.heap.get? b=some o->(h1.push {cls:=.type "list_iterator",data:=.fields #[.ref l,.int 0 0]}).get? b=some o:=fun b o e=>aJ _ (k1 _ _ (up _ _ e));refine aO {Ft _ (by decide +kernel),?_};refine CV (A:=A.in1) (knd:=knd) (items:=items) I (l:=l) (aQ V) (qg Y) (qg (qx V Y)) ps 0 [] _ _ _ ?_ ?_ ?_ ?_ ?_ ?_
 ·exact{_,cz _ rfl,rfl,rfl}
 ·exact U.push _
 ·obtain⟨o,es,ep,e,r⟩:=Z;exact{o,es,ep,aJ _ (k1 _ _ e),r}
 ·rw[rR];clear h H;generalize items.toList=xs at hp
  induction hp with
  |nil=>exact .nil
  |cons q1 q2 g=>
   refine .cons ?_ g;obtain⟨a,z,o,n,rfl,ho,hc,hd,hk⟩:=q1;have J:=aP ho;refine{{a,z,o,n,rfl,W _ _ ho,hc,hd,hk},fun q=>?_,fun q=>?_}
   ·injection q with q;exact aQ J q
   ·injection q with q;exact aQ (qx J Y) q
 ·simpa using H
 ·intro h' tk hd k';refine{rfl,h h' tk hd fun b o e=>k' b o ?_ ?_ (W b o e)}
  ·exact aQ (aP e)
  ·exact aQ (qx (aP e) Y)
end
end PySem
namespace L2
open PySem PySem.Spec PyProof.Rows
section
variable{X:Cx}
theorem yf{n:Nat}(h:n<2^64):n.log2<9000:=by
 by_cases z:n=0
 ·subst z;decide
 ·exact qx ((Nat.log2_lt z).mpr h) (by decide)
def Lx(_ j:Int):Prop:=0<j/\j<2^64
theorem wO:OpR X (iy .FloorDiv) (rI Lx fun i j=>.int (i/j)):=opI fun i j _ _ _ _ _ hc q=>by
 have h1:(0:Int)<j:=hc.1;have h2:j<2^64:=hc.2;have Z:j.natAbs<2^64:=by omega
 exact FH (by omega) (by rw[yO i (by omega)];exact q) (.inl (xK (yf Z)))
def CDivM(_ j:Int):Prop:=j≠0/\j.natAbs<2^64
theorem Gw:OpR X (iy .FloorDiv) (rI CDivM fun i j=>.int (i.fdiv j)):=opI fun _ _ _ _ _ _ _ hc q=>FH hc.1 q (.inl (xK (yf hc.2)))
theorem JV:OpR X (iy .Mult) (rI IntMulOk fun i j=>.int (i*j)):=opI fun _ _ _ _ _ _ _ hc q=>mul_int q hc
theorem ju:jT X (.builtin "isinstance") (fun xs H Q=>∃x n t b,xs=[x,.ty n]/\tj X.K H x t/\bV X.K t (.type n)=some b/\Q (.bl b) H):=by
 intro pins s σ H xs us Q I r h;obtain⟨x,n,t,b,rfl,ty,e,q⟩:=h;obtain⟨u,Y,rfl,Z,rt⟩:=vals2 r
 cases (show Y=Value.type n from rt);exact EA I Z ty e fun tk=>{.bl b,H,I.tok _,rfl,q}
def vJ(H:Hp):List (Key×V)->List V->Prop:=aK fun (p:Key×V) x=>∃a,x=V.ref a/\H a=some (.tup [kV p.1,p.2])
theorem Gz{P:aM}{w:bO}{H:Hp}{h:cC}(ok:HOk P w H h):∀{ps:List (Key×V)} {vs:List V} {us:List ae},vJ H ps vs->c9 vs us->∃qs:List (Key×ae),KV ps qs/\aK (BC (eZ P w) h) qs us:=by
 intro ps vs us r;unfold vJ at r
 induction r generalizing us with
 |nil=>
  intro v
  cases v;exact{[],.nil,.nil}
 |@cons p x ps vs O J W=>
  intro v
  cases v with
  |cons r1 r2=>
   obtain⟨a,rfl,ha⟩:=O;obtain⟨qs,k1,k2⟩:=W r2
   cases r1;obtain⟨_,U,rv,o,ho,hc,n,hd⟩:=(show eP P w H h a (.tup [kV p.1,p.2]) from ok a _ ha);obtain⟨ku,Y,rfl,rk,Z⟩:=vals2 rv;exact{(p.1,Y)::qs,.cons ⟨rfl,Z⟩ k1,.cons {a,ku,o,n,rfl,ho,hc,hd,wJ rk} k2}
theorem JW{ps:List (Key×V)}{qs:List (Key×ae)}(r:KV ps qs):∀{m:List (Key×V)} {n:List (Key×ae)},KV m n->KV (ps.foldl (fun m p=>iW m p.1 p.2) m) (qs.foldl (fun m p=>wI m p.1 p.2) n):=by
 unfold KV at r
 induction r with
 |nil=>
  intro m n k;exact k
 |@cons p q ps qs h t Z=>
  intro m n k;obtain⟨h1,h2⟩:=h;rw[xq,xq,<- h1];exact Z (k.put p.1 h2)
theorem Ap(ps:List (Key×V)):∀m:List (Key×V),(ps.foldl (fun m p=>iW m p.1 p.2) m).length<=m.length+ps.length:=by
 induction ps with
 |nil=>
  intro m;exact ax _
 |cons p ps Z=>
  intro m;rw[xq,aS];have h1:=Z (iW m p.1 p.2);have h2:=mP m p.1 p.2;omega
theorem BE(hc:X.calm=true):jT X (.type "dict") (fun xs H Q=>∃p vs ps,xs=[V.ref p]/\H p=some (.lst vs)/\vJ H ps vs/\ps.length<=aB/\∀d,H d=none->Q (.ref d) (upd H d (.dK (ps.foldl (fun m p=>iW m p.1 p.2) [])))):=by
 intro pins s σ H xs us Q I r h;obtain⟨p,vs,ps,rfl,hp,Z,U,q⟩:=h;obtain⟨u,rfl,ru⟩:=vals1 r
 cases ru;obtain⟨_,W,n,rv,ho⟩:=(show eP X.prog X.w H s.heap p (.lst vs) from I.hok p _ hp);obtain⟨qs,k1,k2⟩:=Gz I.hok Z rv;refine JU (knd:=eZ X.prog X.w) (I.ok.hd hc) ho k2 (by rw[<- k1.length];exact U) fun h' tk hd kk=>?_;have Y:=JW k1 (m:=[]) (n:=[]) .nil;have hl:=Ap ps [];refine{.ref s.heap.objs.size,_,I.laid (a:=s.heap.objs.size) (o:=.dK (ps.foldl (fun m p=>iW m p.1 p.2) [])) (t':=tk) kk (ax _) ?_,rfl,q _ (I.hok.fresh (ax _))};exact yZ (by simp only[cy]at hl;omega) (beq_eq_false_iff_ne.mpr (gi (aQ I.big))) Y hd
end
end L2
namespace Att
open PySem PySem.W PySem.Calls PyProof.Rows
theorem weight_mem:∀(xs:List WData) (x:WData),x∈xs->lP x<=wQ xs
 | [],_,h=>by cases h
 |y::r,x,h=>by
  unfold wQ
  rcases ar.mp h with e|e
  ·subst e;omega
  ·have:=weight_mem r x e;omega
theorem bits_of_lay{ns:List Int}(h:WData.layableAll [WData.list (ns.map WData.int)]=true):∀n∈ns,ff n<=1048576:=fun n Z=>by
 have h1:(WData.list (ns.map WData.int)).layable=true:=(layW_cons h).1;unfold WData.layable at h1;have h2:lP (WData.list (ns.map WData.int))<=2^20:=of_decide_eq_true (rQ.mp h1).2;have W:=weight_mem (ns.map WData.int) (WData.int n) (cD.mpr ⟨n,Z,rfl⟩);have V:lP (WData.list (ns.map WData.int))=wQ (ns.map WData.int):=by
  rw[lP]
 have Y:lP (WData.int n)=ff n:=by
  rw[lP];rfl
 have e:(2:Nat)^20=1048576:=by decide
 omega
theorem attach_callB{l:OpenLaw}{n:Nat}{q:aM}{W:List Str}{XP:(Str->Option ae)->cC->Prop}{YP:bO->cC->Prop}{d:DefRec}
  (hn:l.most=some n) (z:d.params.defaults=[])
  (xw:∀(w:bO) (s₀ Z:ao) (mg D:Str->Option ae) (H:aa) (a:aa) (vs:List ae) (ns:List Int),
   Ground q W [] XP w s₀ mg D Z.heap->YP w Z.heap->mg d.name=some (.ref H) ->
   Z.heap.get? a=some {cls:=.type "list",data:=.seq vs.toArray}->dQ vs ns->ns.length<=n->(∀x∈ns,ff x<=1048576)->Z.gens=#[] ->
   oh (bA l.prog w) xH (.call (.ref H) {[.ref a],[]}) (fun r s'=>r=.ok (.ret (.bool true))/\OldK Z.heap s'.heap/\s'.os=Z.os/\p6 s'.gens) Z) :
  WalkO q W XP YP l.row.toRowW d [] (fun f vs=>EJ f vs):=by
 intro w s₀ Z mg D G Y H o pm cd ce dV kV ho hd bW hD g hg args cp as I U bI cr ci;obtain rfl:dV=.none:=Dflts.none hD z;obtain rfl:kV=.none:=Dflts.noKw hD;obtain⟨a,vs,ns,rfl,rfl,O,V,J⟩:=script_of hn I cr;refine enter_call (oj (xw w s₀ Z mg D H a vs ns G Y g O V J (bits_of_lay U) hg) fun r s' hq=>?_);obtain⟨rfl,h2,h3,h4⟩:=hq;exact{.inl {.bool true,.bool true,[],rfl,fun _=>rfl,.bool true,post_true l _,fun _=>{List.Pairwise.nil,fun _ hm=>(nomatch hm)}},h2,h3,h4}
end Att
namespace L2
open PySem PySem.Spec PyProof.Rows
theorem walk_ofB{l:vx}{n k:Nat}{q:aM}{U:List Str}{XP:(Str->Option ae)->cC->Prop}{YP:bO->cC->Prop}{d:DefRec}{K:Params->af}{CX:bO->CXT}{sp:bO->Sp}{x:Str}
  (hn:l.most=some n) (z:n<=aB) (bH:d.params.defaults=[]) (hr:cZ k xH)
  (hY:∀(w:bO) (h:cC),YP w h->(K w.params).In h)
  (F:∀(w:bO) (mg:Str->Option ae) (D:aa) (h:cC),(K w.params).In h->h.Ns bD mg->mg d.name=some (.ref D) ->
   ∃fd:bX,(∀(s:ao) (u:ae),uV s fd {[u],[]} [(x,u)]) /\
    ∀base:cC,(K w.params).In base->base.Ns bD mg->bL l.prog w (K w.params) mg base (CX w) k D fd [x] (sp w))
  (bG:∀(w:bO) (H:Hp) (a:aa) (ns:List Int),ns.length<=n->(∀x∈ns,ff x<=1048576)->SqL (K w.params) H a (ns.map V.int)->sp w [.ref a] H (fun v _=>v=.bl true) fun _ _ _=>False)
  (bB:∀(w:bO) (H:Hp) (s:ao) (e:ae) (s':ao),CX w [] H s (fun _ _ _=>False) e s'->False) :
  Jm q U XP YP l.row.toRowW d [] (fun f vs=>EJ f vs):=by
 refine Att.attach_callB hn bH fun w s₀ I mg mb D a vs ns G Y bF J W Z O hg=>?_;have KX:=hY w _ Y;obtain⟨fd,hb,hF⟩:=F w mg D _ KX G.T.g bF;exact Gf KX G.T.g G.T.b G.T.builtins G.T.nolimit hg J W (dB Z z) hr hF hb (fun H hO hS=>bG w H a ns Z O hS) fun H e s'=>bB w H I e s'
end L2
namespace PySem
open SeqAt MeetsSeq MeetsSeq2 MeetsSeq3 SeqRoads2
open AutoSeq1 (wpAny_loadPart')
def nI(prog:aM)(w:bO)(A:cj)(s:ao)(y x:ae):Prop:=
 ∀(E:ae->ao->Prop) (Q:Bool->ao->Prop),Q true s->aX (bA prog w) A (eqBool y x) Q E s
def RcIn(prog:aM)(w:bO)(A:cj)(s:ao)(y x:ae):Prop:=
 ∀(E:ae->ao->Prop) (Q:ae->ao->Prop),Q (.bool true) s->aX (bA prog w) A (p8 .Eq y x) Q E s
section
variable{prog:aM}{w:bO}{A:cj}{s:ao}
theorem nI.of_at{y x:ae}(h:EqAt A s y x true):nI prog w A s y x:=fun E Q q=>h prog w E Q q
theorem nI.self(v:ae):nI prog w A s v v:=nI.of_at (EqAt.same v)
theorem nI.refs{l b:aa}(h:RcIn prog w A s (.ref l) (.ref b)):nI prog w A s (.ref l) (.ref b):=by
 by_cases e:l=b
 ·rw[e];exact nI.self _
 ·intro E Q q;unfold eqBool;refine dU (wpAny_ite_split (fun z=>?_) (fun _=>?_))
  ·exact absurd (by have Z:=eq_of_beq z;injection Z) e
  ·exact ai (h E _ (iZ q))
theorem JX(l b:aa)(xs ys:Array ae)(n m:Nat)(dd I:Option aa)(sl sm:Array (Option ae))(hsz:xs.size=ys.size):∀k i:Nat,xs.size-i=k ->
  MeetsIn prog w (ic.«list.__eq__.loop» {[.ref l,.ref b,uh i,uh 2],[]}) (fun A R s=>
   s.heap.get? l=some {cls:=.type "list",dict:=dd,data:=.seq xs n,slots:=sl}/\s.heap.get? b=some {cls:=.type "list",dict:=I,data:=.seq ys m,slots:=sm} /\
   (∀j (h1:j<xs.size) (h2:j<ys.size),nI prog w A.in1 s xs[j] ys[j])/\R (.ok (.ret (.bool true))) s):=by
 intro k
 induction k with
 |zero=>
  intro i hk A R s q;obtain⟨hp,g,d,tk,os⟩:=s;obtain⟨Z,Y,V,W⟩:=q;have a1:xs[((i:Nat):Int).toNat]?=none:=by simp;omega
  have a2:ys[((i:Nat):Int).toNat]?=none:=by simp;omega
  wp_walk using dy Z,dy Y
  rw[a1,a2]
  wp_walk using dy Z,dy Y
  show R (.ok (.ret (.bool (xs.size==ys.size)))) _;rw[hsz,beq_self_eq_true];exact W
 |succ k J=>
  intro i hk A R s q;obtain⟨hp,g,d,tk,os⟩:=s;obtain⟨Z,Y,V,W⟩:=q;have O:i<xs.size:=by omega
  have U:i<ys.size:=by omega
  have a1:xs[((i:Nat):Int).toNat]?=some xs[i]:=by simp[O]
  have a2:ys[((i:Nat):Int).toNat]?=some ys[i]:=by simp[U]
  have e1:((i:Int)+1)=((i+1:Nat):Int):=by push_cast;rfl
  wp_walk using dy Z,dy Y
  rw[a1,a2];refine ai (V i O U _ _ ?_)
  wp_walk
  rw[e1];refine{plainId_quiet plain_eq_loop _,sX entry_eq_loop ?_};rw[A6 plain_eq_loop _];exact J (i+1) (by omega) A R _ ⟨Z,Y,V,W⟩
theorem JY(l b:aa)(xs ys:Array ae)(n m:Nat)(dd W:Option aa)(sl sm:Array (Option ae))(hsz:xs.size=ys.size) :
  MeetsIn prog w (ic.«list.__eq__» {[.ref l,.ref b],[]}) (fun A R s=>
   s.heap.get? l=some {cls:=.type "list",dict:=dd,data:=.seq xs n,slots:=sl}/\s.heap.get? b=some {cls:=.type "list",dict:=W,data:=.seq ys m,slots:=sm} /\
   (∀j (h1:j<xs.size) (h2:j<ys.size),nI prog w A.in1 s xs[j] ys[j])/\R (.ok (.ret (.bool true))) s):=by
 intro A R s q;obtain⟨hp,g,d,tk,os⟩:=s;obtain⟨Y,Z,U,V⟩:=q;have f1:=AutoSeq1.sub_list_list;have O:¬(xs.size != ys.size)=true:=by simp[hsz]
 wp_walk using dy Y,dy Z
 refine{plainId_quiet plain_eq_loop _,sX entry_eq_loop ?_};rw[A6 plain_eq_loop _];exact JX l b xs ys n m dd W sl sm hsz _ 0 rfl A R _ ⟨Y,Z,U,V⟩
theorem RcIn.lists{l b:aa}{xs ys:Array ae}(hl:s.heap.IsList l xs)(hb:s.heap.IsList b ys)(hsz:xs.size=ys.size)(hu:A.units<eN)
  (W:∀j (h1:j<xs.size) (h2:j<ys.size),nI prog w A.in1 s xs[j] ys[j]):RcIn prog w A s (.ref l) (.ref b):=fun E Q q=>by
 obtain⟨⟨c1,dd,t1,sl⟩,Z,rfl,n,rfl⟩:=id hl;obtain⟨⟨U,V,O,sm⟩,Y,rfl,m,rfl⟩:=id hb;refine A7 (op:=.Eq) {_,Z,rfl} {_,Y,rfl} F.slot_list_eq (GH F.slot_list_eq {_,Z,rfl} F.entry_list_eq (F.args_list_eq_2 _ _) (JY l b xs ys n m dd V sl sm hsz) {Z,Y,W,?_}) hu;exact{fun z=>(nomatch z),q}
variable{K:Type}[DecidableEq K]{knd:KeyKind prog w K}
theorem pairs_at{es:List DictEntry}{kvs:List (K×ae)}(h:Pairs knd es kvs):∀{i:Nat} {e:DictEntry},es[i]?=some e->∃Z,kvs[i]?=some Z/\knd.is Z.1 e.key=true/\e.val=Z.2:=by
 induction h with
 |nil=>
  intro i e q;simp at q
 |cons a b _ Y=>
  intro i e q
  cases i with
  |zero=>
   simp at q;subst q;exact{_,rfl,a,b}
  |succ i=>
   obtain⟨Z,z⟩:=Y (i:=i) (by simpa using q);exact{Z,by simpa using z.1,z.2}
theorem GJ{nm:String}{d b:aa}{kvs kws:List (K×ae)}{Q:Bool->ao->Prop}{E:ae->ao->Prop}(hd:(d==fi)=false)(hb:(b==fi)=false)(m1:s.heap.DictOf knd d kvs)(J:s.heap.DictOf knd b kws)
  (hl:kvs.length=kws.length) (g:∀Z∈kvs,∃W,p9 kws Z.1=some W/\nI prog w A s Z.2 W) (q:Q true s):aX (bA prog w) A (vK nm d b) Q E s:=by
 obtain⟨o1,es,ep,h1,x1,t1,k1,U,n1⟩:=id m1;obtain⟨o2,fs,fp,h2,x2,V,k2,p2,n2⟩:=id J;have z1:es.size=kvs.length:=by rw[<- U.length,fY]
 have I:fs.size=kws.length:=by rw[<- p2.length,fY]
 unfold vK;unfold Builtin.Dict.showsAll;rw[if_neg (by rw[hd];exact aY),if_neg (by rw[hb];exact aY)];refine ai (aO (ai (aO ?_)));refine ai (qc h1 t1 (ai (qc h2 V ?_)));rw[if_neg (by rw[z1,I,hl];simp)];refine ai (wpAny_dictEpoch h1 t1 (ai ?_));rw[Ly];simp only[Lz,Nat.sub_zero,GK,Nat.div_one];refine lL _ (fun rest r s'=>s'=s/\r.1=none/\∃i,rest=List.range' i (es.size-i)/\i<=es.size) _ ?_ ?_ _ _ {rfl,rfl,0,by simp,cm _}
 ·rintro x rest ⟨r1,r2⟩ s' ⟨rfl,e1,i,hr,hi⟩;have lt:i<es.size:=by
   rcases vy i es.size with z|z
   ·exact z
   ·rw[Nat.sub_eq_zero_of_le z]at hr;simp at hr
  obtain⟨rfl,Y⟩:x=i/\rest=List.range' (i+1) (es.size-(i+1)):=by
   rw[show es.size-i=(es.size-(i+1))+1 by omega,List.range'_succ]at hr;injection hr with a1 a2;exact⟨a1,a2⟩
  obtain⟨Z,y1,O,y3⟩:=pairs_at U (i:=x) (e:=es[x]) (by simp[lt]);obtain⟨kk,y4,y5⟩:=k1 es[x] (Array.getElem_mem lt);have y6:kk=Z.1:=knd.inj _ _ _ y4 O;subst y6;obtain⟨W,g1,g2⟩:=g Z (cB y1);obtain⟨o3,fs',cd,a1,_,a2,a3,hf⟩:=J.mapOf;rw[h2]at a1
  cases a1;rw[V]at a2
  cases a2;rw[<- hf Z.1,findBy_of_findIdx?]at g1;refine ai (qc h1 t1 ?_);rw[Array.getElem?_eq_getElem lt];dsimp only;refine ai (dU (ai ?_));rw[y5];refine wpAny_dictFind_of O h2 V k2 ?_
  cases hj:fs.findIdx? fun e=>knd.is Z.1 e.key with
  |none=>
   rw[hj]at g1
   cases g1
  |some j=>
   rw[hj]at g1;dsimp only at g1 |-;refine ai (qc h2 V ?_)
   cases hx:fs[j]? with
   |none=>
    simp[hx]at g1
   |some H=>
    have D:H.val=W:=by simpa[hx] using g1
    dsimp only;refine dU ?_;rw[y3,D];refine g2 _ _ ?_;rw[if_neg (by decide)];refine ai (wpAny_dictEpoch h1 t1 ?_);rw[if_neg (by simp)];exact aO {rfl,rfl,x+1,Y,lt}
 ·rintro⟨r1,r2⟩ s' ⟨rfl,e1,_⟩;have e1:r1=none:=e1;subst e1;exact aO q
theorem EK(d b:aa)(hd:(d==fi)=false)(hb:(b==fi)=false) :
  MeetsIn prog w (ic.«dict.__eq__» {[.ref d,.ref b],[]}) (fun A R s=>∃kvs kws,s.heap.DictOf knd d kvs/\s.heap.DictOf knd b kws/\kvs.length=kws.length /\
   (∀Y∈kvs,∃Z,p9 kws Y.1=some Z/\nI prog w A.in1 s Y.2 Z)/\R (.ok (.ret (.bool true))) s):=
 .of_wp fun A R s h=>by
  obtain⟨kvs,kws,V,W,hl,U,q⟩:=h;unfold ic.«dict.__eq__»;show aX _ _ (uy "__eq__" {[.ref d,.ref b],[]} >>= _) _ _ s;refine ai ?_;unfold uy;unfold Builtin.Dict.notOrdered;rw[if_neg (by decide)];refine ai (aO ?_);show aX _ _ (pure (Value.ref d,Value.ref b)) _ _ s;refine aO ?_;dsimp only;refine ai (wpAny_isInstance W.typeIs isSubtype_dict_dict ?_);rw[if_neg (by decide)];refine ai (aO (ai (aO (ai (GJ hd hb V W hl U ?_)))));exact aO {_,rfl,q}
theorem RcIn.dicts{d b:aa}{kvs kws:List (K×ae)}(hd:(d==fi)=false)(hb:(b==fi)=false)(Z:s.heap.DictOf knd d kvs)(V:s.heap.DictOf knd b kws)(hl:kvs.length=kws.length)(hu:A.units<eN)
  (U:∀W∈kvs,∃Y,p9 kws W.1=some Y/\nI prog w A.in1 s W.2 Y):RcIn prog w A s (.ref d) (.ref b):=fun E Q q=>
 A7 (op:=.Eq) Z.typeIs V.typeIs F.slot_dict_eq (GH F.slot_dict_eq Z.typeIs F.entry_dict_eq (F.args_dict_eq_2 _ _) (EK (knd:=knd) d b hd hb) {kvs,kws,Z,V,hl,U,{fun z=>(nomatch z),q}}) hu
end
end PySem
namespace L2
open PySem PySem.Spec PyProof.Rows PySem.SeqAt
def sc0:V->Prop
 |.int _=>True
 |.str _=>True
 |.bl _=>True
 |.non=>True
 |_=>False
def TEq(H:Hp):Nat->V->V->Prop
 |0,x,y=>sc0 x/\x=y
 |n+1,x,y=>(sc0 x/\x=y)\/(∃p q xs ys,x=.ref p/\y=.ref q/\H p=some (.lst xs)/\H q=some (.lst ys)/\aK (TEq H n) xs ys) \/
   ∃p q xs ys,x=.ref p/\y=.ref q/\H p=some (.tup xs)/\H q=some (.tup ys)/\aK (TEq H n) xs ys
def DEq(H:Hp):Nat->V->V->Prop
 |0,x,y=>∃n,n<=20/\TEq H n x y
 |n+1,x,y=>(∃n,n<=20/\TEq H n x y)\/(∃p q xs ys,x=.ref p/\y=.ref q/\H p=some (.lst xs)/\H q=some (.lst ys)/\aK (DEq H n) xs ys) \/
   ∃p q kvs kws,x=.ref p/\y=.ref q/\H p=some (.dK kvs)/\H q=some (.dK kws)/\aK (fun (a b:Key×V)=>a.1=b.1/\DEq H n a.2 b.2) kvs kws
section
variable{P:aM}{w:bO}{H:Hp}{s:ao}
theorem oo{R:V->V->Prop}:∀{xs ys:List V} {us vs:List ae},aK R xs ys->c9 xs us->c9 ys vs->us.length=vs.length/\∀j (h1:j<us.length) (h2:j<vs.length),∃x y,R x y/\RelV x us[j]/\RelV y vs[j]:=by
 intro xs ys us vs p
 induction p generalizing us vs with
 |nil=>
  intro a b
  cases a
  cases b;exact{rfl,fun j h1=>absurd h1 (gz _)}
 |cons r rs Z=>
  intro a b
  cases a with
  |cons a Y=>
  cases b with
  |cons b bs=>
  obtain⟨e,z⟩:=Z Y bs;refine{by rw[aS,aS,e],fun j h1 h2=>?_}
  cases j with
  |zero=>exact{_,_,r,a,b}
  |succ j=>exact z j (qA h1) (qA h2)
theorem CW{A:cj}{x:V}{u v:ae}(h:sc0 x)(ru:RelV x u)(rv:RelV x v):EqAt A s u v true:=by
 cases x with
 |non=>cases ru;cases rv;exact EqAt.same _
 |bl b=>cases ru;cases rv;exact EqAt.same _
 |int i=>
  obtain⟨t,rfl⟩:=ru;obtain⟨t',rfl⟩:=rv;have z:=EqAt.int_int (A:=A) (s:=s) i t i t';rw[beq_self_eq_true]at z;exact z
 |str i=>
  obtain⟨t,rfl⟩:=ru;obtain⟨t',rfl⟩:=rv;have z:=EqAt.str_str (A:=A) (s:=s) i t i t';rw[beq_self_eq_true]at z;exact z
 |byt b=>exact h.elim
 |flt b=>exact h.elim
 |ref a=>exact h.elim
 |ty a=>exact h.elim
theorem iw(ok:HOk P w H s.heap){p:aa}{xs:List V}(h:H p=some (.lst xs)):∃us:List ae,c9 xs us/\s.heap.IsList p us.toArray:=by
 obtain⟨_,us,n,r,e⟩:=(show eP P w H s.heap p (.lst xs) from ok p _ h);exact{us,r,_,e,rfl,n,rfl}
theorem jc(ok:HOk P w H s.heap){p:aa}{xs:List V}(h:H p=some (.tup xs)):∃us:List ae,c9 xs us/\s.heap.IsTuple p us.toArray:=by
 obtain⟨_,us,r,o,e,c,n,d⟩:=(show eP P w H s.heap p (.tup xs) from ok p _ h);exact⟨us,r,o,e,c,n,d⟩
theorem tG(n:Nat):((kL n).all fun _=>true)=true:=by simp
theorem Aq(ok:HOk P w H s.heap){R:V->V->Prop}{A:cj}{p q:aa}{xs ys:List V}(hu:A.units<eN)(h1:H p=some (.lst xs))(h2:H q=some (.lst ys))(r:aK R xs ys)
  (U:∀x y u v,R x y->RelV x u->RelV y v->EqAt A.in1 s u v true):RcAt A s (.ref p) (.ref q) true:=by
 obtain⟨us,r1,i1⟩:=iw ok h1;obtain⟨vs,r2,i2⟩:=iw ok h2;obtain⟨e,z⟩:=oo r r1 r2;have k:=RcAt.lists (e:=fun _=>true) i1 i2 (by simpa using e) hu (fun j a b=>by
  obtain⟨x,y,W,Y,Z⟩:=z j (by simpa using a) (by simpa using b);simpa using U _ _ _ _ W Y Z)
 rw[tG]at k;exact k
theorem CZ(ok:HOk P w H s.heap){R:V->V->Prop}{A:cj}{p q:aa}{xs ys:List V}(hu:A.units<eN)(h1:H p=some (.tup xs))(h2:H q=some (.tup ys))(r:aK R xs ys)
  (U:∀x y u v,R x y->RelV x u->RelV y v->EqAt A.in1 s u v true):RcAt A s (.ref p) (.ref q) true:=by
 obtain⟨us,r1,i1⟩:=jc ok h1;obtain⟨vs,r2,i2⟩:=jc ok h2;obtain⟨e,z⟩:=oo r r1 r2;have k:=RcAt.tuples (e:=fun _=>true) i1 i2 hu (fun j a b=>by
  obtain⟨x,y,W,Y,Z⟩:=z j (by simpa using a) (by simpa using b);simpa using U _ _ _ _ W Y Z)
 rw[tG,NA,aF,aF,e,beq_self_eq_true]at k;exact k
theorem EqAt.of_rc{A:cj}{l b:aa}(h:RcAt A s (.ref l) (.ref b) true):EqAt A s (.ref l) (.ref b) true:=by
 by_cases e:l=b
 ·rw[e];exact EqAt.same _
 ·exact EqAt.of_refs e h
theorem qB(ok:HOk P w H s.heap):∀{n:Nat} {A:cj} {x y:V} {u v:ae},A.units+n<eN->TEq H n x y->RelV x u->RelV y v->EqAt A s u v true
 |0,A,x,y,u,v,hu,h,ru,rv=>by
  obtain⟨h1,rfl⟩:=h;exact CW h1 ru rv
 |n+1,A,x,y,u,v,hu,h,ru,rv=>by
  have Z:A.in1.units+n<eN:=by
   show A.units+1+n<eN;omega
  rcases h with⟨h1,rfl⟩|⟨p,q,xs,ys,rfl,rfl,h1,h2,r⟩|⟨p,q,xs,ys,rfl,rfl,h1,h2,r⟩
  ·exact CW h1 ru rv
  ·cases ru
   cases rv;exact EqAt.of_rc (Aq ok (by omega) h1 h2 r fun _ _ _ _ z a b=>qB ok Z z a b)
  ·cases ru
   cases rv;exact EqAt.of_rc (CZ ok (by omega) h1 h2 r fun _ _ _ _ z a b=>qB ok Z z a b)
theorem wR(ok:HOk P w H s.heap){R:V->V->Prop}{A:cj}{p q:aa}{xs ys:List V}(hu:A.units<eN)(h1:H p=some (.lst xs))(h2:H q=some (.lst ys))(r:aK R xs ys)
  (U:∀x y u v,R x y->RelV x u->RelV y v->nI P w A.in1 s u v):RcIn P w A s (.ref p) (.ref q):=by
 obtain⟨us,r1,i1⟩:=iw ok h1;obtain⟨vs,r2,i2⟩:=iw ok h2;obtain⟨e,z⟩:=oo r r1 r2;exact RcIn.lists i1 i2 (by simpa using e) hu (fun j a b=>by
  obtain⟨x,y,W,Y,Z⟩:=z j (by simpa using a) (by simpa using b);simpa using U _ _ _ _ W Y Z)
theorem JZ{κ:Type}{R:κ×V->κ×V->Prop}:∀{kvs kws:List (κ×V)} {us vs:List (κ×ae)},aK R kvs kws->KV kvs us->KV kws vs->us.length=vs.length/\∀(i:Nat) (q:κ×ae),us[i]?=some q->∃Z a b,vs[i]?=some Z/\R a b/\a.1=q.1/\b.1=Z.1/\RelV a.2 q.2/\RelV b.2 Z.2:=by
 intro kvs kws us vs p
 induction p generalizing us vs with
 |nil=>
  intro a b
  cases a
  cases b;exact{rfl,fun i q h=>by simp at h}
 |cons r rs Y=>
  intro a b
  cases a with
  |cons a W=>
  cases b with
  |cons b bs=>
  obtain⟨e,z⟩:=Y W bs;refine{by rw[aS,aS,e],fun i q h=>?_}
  cases i with
  |zero=>
   simp at h;subst h;exact{_,_,_,rfl,r,a.1,b.1,a.2,b.2}
  |succ i=>
   obtain⟨Z,x,y,h1,h2⟩:=z i q (by simpa using h);exact{Z,x,y,by simpa using h1,h2}
theorem wU(ok:HOk P w H s.heap){R:V->V->Prop}{A:cj}{p q:aa}{kvs kws:List (Key×V)}(hu:A.units<eN)(h1:H p=some (.dK kvs))(h2:H q=some (.dK kws))(r:aK (fun (a b:Key×V)=>a.1=b.1/\R a.2 b.2) kvs kws)
  (he:∀x y u v,R x y->RelV x u->RelV y v->nI P w A.in1 s u v):RcIn P w A s (.ref p) (.ref q):=by
 obtain⟨_,n1,us,k1,J⟩:=(show eP P w H s.heap p (.dK kvs) from ok p _ h1);obtain⟨_,n2,vs,k2,U⟩:=(show eP P w H s.heap q (.dK kws) from ok q _ h2);obtain⟨e,z⟩:=JZ r k1 k2;refine RcIn.dicts n1 n2 J U e hu fun Y Z=>?_;obtain⟨i,hi⟩:=dI Z;obtain⟨W,a,b,g1,⟨I,D⟩,g4,g,g6,O⟩:=z i Y hi;obtain⟨_,_,_,_,_,_,_,_,nd⟩:=id U;have g8:vs[i]?=some (Y.1,W.2):=by
  rw[g1,<- g4,I,g]
 exact{W.2,valueAt_of_get nd g8,he _ _ _ _ D g6 O}
theorem ze(ok:HOk P w H s.heap):∀{n:Nat} {A:cj} {x y:V} {u v:ae},A.units+n+20<eN->DEq H n x y->RelV x u->RelV y v->nI P w A s u v
 |0,A,x,y,u,v,hu,h,ru,rv=>by
  obtain⟨m,h0,h1⟩:=h;exact nI.of_at (qB ok (by omega) h1 ru rv)
 |n+1,A,x,y,u,v,hu,h,ru,rv=>by
  have Z:A.in1.units+n+20<eN:=by
   show A.units+1+n+20<eN;omega
  rcases h with⟨m,h0,h1⟩|⟨p,q,xs,ys,rfl,rfl,h1,h2,r⟩|⟨p,q,kvs,kws,rfl,rfl,h1,h2,r⟩
  ·exact nI.of_at (qB ok (by omega) h1 ru rv)
  ·cases ru
   cases rv;exact nI.refs (wR ok (by omega) h1 h2 r fun _ _ _ _ z a b=>ze ok Z z a b)
  ·cases ru
   cases rv;exact nI.refs (wU ok (by omega) h1 h2 r fun _ _ _ _ z a b=>ze ok Z z a b)
end
section
variable{X:Cx}
theorem NB(hu:X.A.units+50<eN):OpR X (c5 .Eq) (fun x y H Q=>∃n p q,n<=20/\x=.ref p/\y=.ref q/\DEq H n x y/\Q (.bl true) H):=by
 intro pins s σ H x y v u Q I rx ry h;obtain⟨n,p,q,hn,rfl,rfl,d,k⟩:=h
 cases rx
 cases ry;have fin:EP X pins σ Q (.bool true) s:={.bl true,H,I,rfl,k};have Z:X.A.units<eN:=by omega
 have V:RcIn X.prog X.w X.A s (.ref p) (.ref q):=by
  have U:∀m,m<=20->X.A.in1.units+m<eN:=fun m hm=>by
   show X.A.units+1+m<eN;omega
  have g:∀m,m<=20->TEq H m (.ref p) (.ref q)->RcIn X.prog X.w X.A s (.ref p) (.ref q):=fun m hm t=>by
   cases m with
   |zero=>exact t.1.elim
   |succ m=>
    rcases t with⟨h1,_⟩|⟨D,O,xs,ys,e1,W,h1,h2,r⟩|⟨D,O,xs,ys,e1,W,h1,h2,r⟩
    ·exact h1.elim
    ·cases e1
     cases W;intro E J k';exact Aq I.hok Z h1 h2 r (fun _ _ _ _ z a b=>qB I.hok (U m (by omega)) z a b) X.prog X.w E J k'
    ·cases e1
     cases W;intro E J k';exact CZ I.hok Z h1 h2 r (fun _ _ _ _ z a b=>qB I.hok (U m (by omega)) z a b) X.prog X.w E J k'
  cases n with
  |zero=>
   obtain⟨m,hm,t⟩:=d;exact g m hm t
  |succ n=>
   have Y:X.A.in1.units+n+20<eN:=by
    show X.A.units+1+n+20<eN;omega
   rcases d with⟨m,hm,t⟩|⟨D,O,xs,ys,e1,W,h1,h2,r⟩|⟨D,O,kvs,kws,e1,W,h1,h2,r⟩
   ·exact g m hm t
   ·cases e1
    cases W;exact wR I.hok Z h1 h2 r fun _ _ _ _ z a b=>ze I.hok Y z a b
   ·cases e1
    cases W;exact wU I.hok Z h1 h2 r fun _ _ _ _ z a b=>ze I.hok Y z a b
 exact V _ _ fin
theorem GV(hu:X.A.units+50<eN):OpR X (c5 .NotEq) (fun x y H Q=>∃n p q,n<=20/\x=.ref p/\y=.ref q/\TEq H n x y/\Q (.bl false) H):=by
 intro pins s σ H x y v u Q I Y Z h;obtain⟨n,p,q,g,rfl,rfl,d,k⟩:=h
 cases Y
 cases Z;have fin:EP X pins σ Q (.bool false) s:={.bl false,H,I,rfl,k};have W:X.A.units<eN:=by omega
 cases n with
 |zero=>exact d.1.elim
 |succ m=>
  have V:X.A.in1.units+m<eN:=by
   show X.A.units+1+m<eN;omega
  rcases d with⟨h1,_⟩|⟨D,J,xs,ys,e1,O,h1,h2,r⟩|⟨D,J,xs,ys,e1,O,h1,h2,r⟩
  ·exact h1.elim
  ·cases e1
   cases O;obtain⟨us,r1,i1⟩:=iw I.hok h1;obtain⟨vs,r2,i2⟩:=iw I.hok h2;obtain⟨e,z⟩:=oo r r1 r2;have k:=RcNeAt.lists (A:=X.A) (e:=fun _=>true) i1 i2 (by simpa using e) W (fun j a b=>by
    obtain⟨x,y,U,Y,Z⟩:=z j (by simpa using a) (by simpa using b);simpa using qB I.hok V U Y Z)
   rw[tG]at k;exact k X.prog X.w _ _ fin
  ·cases e1
   cases O;obtain⟨us,r1,i1⟩:=jc I.hok h1;obtain⟨vs,r2,i2⟩:=jc I.hok h2;obtain⟨e,z⟩:=oo r r1 r2;have k:=RcNeAt.tuples (A:=X.A) (e:=fun _=>true) i1 i2 W (fun j a b=>by
    obtain⟨x,y,U,Y,Z⟩:=z j (by simpa using a) (by simpa using b);simpa using qB I.hok V U Y Z)
   rw[tG,NA,aF,aF,e,beq_self_eq_true]at k;exact k X.prog X.w _ _ fin
theorem BF{A:cj}{k:Nat}(hr:cZ k A):A.units+50<eN:=by
 have:=hr.un;omega
end
end L2
namespace PySem
open Sem (wp)
section
variable{prog:aM}{w:bO}{A:cj}{E:ae->ao->Prop}{s:ao}
end
section
variable{prog:aM}{w:bO}{A:cj}{R:FN->ao->Prop}{I:aa}{fp wr:List aa}{n:Nat}{P:Nat->ae->Prop}{St:Nat->cC->Prop}{G:cC->Prop}
end
section
variable{prog:aM}{w:bO}{A:cj}{E:ae->ao->Prop}{s:ao}
end
section
variable{prog:aM}{w:bO}{K:Type}[DecidableEq K]{knd:HeapKind prog w K}{A:cj}{E:ae->ao->Prop}{s:ao}
end
section
variable{prog:aM}{w:bO}{A:cj}{E:ae->ao->Prop}{s:ao}
end
end PySem
namespace HT
theorem BG:∀a:List Int,lexLt a a=false
 | []=>rfl
 |x::r=>by rw[lexLt_cons,if_pos rfl];exact BG r
theorem lx_trans:∀{a b c:List Int},lexLt a b=true->lexLt b c=true->lexLt a c=true
 | [],[],_,h,_=>by cases h
 | [],_::_,[],_,h=>by cases h
 | [],_::_,_::_,_,_=>rfl
 |_::_,[],_,h,_=>by cases h
 |_::_,_::_,[],_,h=>by cases h
 |x::a,y::b,z::c,h,k=>by
  rw[lexLt_cons]at h k |-
  by_cases e:x=y
  ·subst e;rw[if_pos rfl]at h
   by_cases f:x=z
   ·subst f;rw[if_pos rfl]at k |-;exact lx_trans h k
   ·rw[if_neg f]at k |-;exact k
  ·rw[if_neg e]at h;have h:=of_decide_eq_true h
   by_cases f:y=z
   ·subst f;rw[if_neg e];exact decide_eq_true h
   ·rw[if_neg f]at k;have k:=of_decide_eq_true k;rw[if_neg (by omega)];exact decide_eq_true (by omega)
theorem tH:∀{a b:List Int},lexLt a b=false->lexLt b a=false->a=b
 | [],[],_,_=>rfl
 | [],_::_,h,_=>by cases h
 |_::_,[],_,h=>by cases h
 |x::a,y::b,h,k=>by
  rw[lexLt_cons]at h k
  by_cases e:x=y
  ·subst e;rw[if_pos rfl]at h k;rw[tH h k]
  ·rw[if_neg e]at h;rw[if_neg (fun z=>e z.symm)]at k;have h:=of_decide_eq_false h;have k:=of_decide_eq_false k;exact absurd (by omega) e
theorem lx_asym{a b:List Int}(h:lexLt a b=true):lexLt b a=false:=by
 cases e:lexLt b a with
 |false=>rfl
 |true=>
  have z:=lx_trans h e;rw[BG]at z
  cases z
theorem lx_of_not{a b:List Int}(h:lexLt a b=false)(n:a≠b):lexLt b a=true:=by
 cases e:lexLt b a with
 |true=>rfl
 |false=>exact absurd (tH h e) n
open PySem PyProof.Rows
open PySem.SeqAt
open PySem.AutoSeq1 (wpAny_loadPart')
open PySem.MeetsSeq PySem.MeetsSeq2 PySem.MeetsSeq3
theorem J0(l b:aa)(xs ys:Array ae)(n m:Nat)(dd de:Option aa)(sl sm:Array (Option ae))(ns ms:List Int)(hi:dQ xs.toList ns)(hj:dQ ys.toList ms) :
  Meets (ic.«tuple.__gt__» {[.ref l,.ref b],[]})
   (fun _ R s=>s.heap.get? l=some {cls:=.type "tuple",dict:=dd,data:=.seq xs n,slots:=sl}/\s.heap.get? b=some {cls:=.type "tuple",dict:=de,data:=.seq ys m,slots:=sm}/\R (.ok (.ret (.bool (lexLt ms ns)))) s):=
 .of_wp fun prog w A R s h=>by
  obtain⟨hp,g,d,tk,os⟩:=s;obtain⟨hl,hb,h⟩:=h;have f2:=i5;have z1:xs.size=ns.length:=by rw[<- hi.length];simp
  have z2:ys.size=ms.length:=by rw[<- hj.length];simp
  wp_walk using dy hl,dy hb,lL _ (fun rest b s'=>b.1=none/\s'=⟨hp,g,d,tk,os⟩/\∃(vs D:List ae) (W Y:List Int),rest=vs.zip D /\
   dQ vs W/\dQ D Y/\W.length+ys.size=Y.length+xs.size/\R (.ok (.ret (.bool (lexLt Y W)))) ⟨hp,g,d,tk,os⟩) _
  case turn=>
   rintro⟨y,x⟩ rest b s' ⟨J,rfl,vs,D,W,Y,V,hv,hw,Z,O⟩
   cases hv with
   |nil=>rw[uX]at V;cases V
   |cons a t hv=>
    cases hw with
    |nil=>rw[t9]at V;cases V
    |cons c u hw=>
     rw[e8]at V;injection V with z I;injection z with hy hx;subst hy hx;rw[lexLt_cons]at O;simp only[aS]at Z;obtain⟨e,he,U⟩:=wF A.in1 ⟨hp,g,d,tk,os⟩ a t c u;refine ai (he prog w _ _ ?_)
     cases e with
     |true=>
      rw[if_pos (U.mp rfl).symm]at O
      wp_walk
      exact{rfl,rfl,_,_,_,_,I,hv,hw,by omega,O}
     |false=>
      rw[if_neg (fun q=>absurd (U.mpr q.symm) aY)]at O;have bG:∀(E:ae->ao->Prop) (Q:ae->ao->Prop),Q (.bool (decide (a>c))) ⟨hp,g,d,tk,os⟩->aX (bA prog w) A.in1 (p8 .Gt (.int a t) (.int c u)) Q E ⟨hp,g,d,tk,os⟩:=fun E Q q=>
       (PyProof.Rows.gt_int q:aX (bA prog w) A.in1 (c5 .Gt (.int a t) (.int c u)) Q E _)
      wp_walk using bG
      exact{_,rfl,by simpa using O}
  case fin=>
   rintro⟨b1,b2⟩ s' ⟨J,rfl,vs,D,W,Y,V,bF,H,Z,O⟩;simp only at J;subst J;have hv:lexLt Y W=decide (ys.size<xs.size):=by
    cases bF with
    |nil=>
     cases H with
     |nil=>
      simp only[cy]at Z;rw[nC];exact (decide_eq_false (by omega)).symm
     |cons c u hw=>
      simp only[cy,aS]at Z;rw[lK];exact (decide_eq_false (by omega)).symm
    |cons a t hv=>
     cases H with
     |nil=>
      simp only[cy,aS]at Z;rw[lJ];exact (decide_eq_true (by omega)).symm
     |cons c u hw=>
      rw[e8]at V
      cases V
   rw[hv]at O
   wp_walk
   exact{_,rfl,by simpa[jo] using O}
  case h=>
   exact{rfl,rfl,xs.toList,ys.toList,ns,ms,rfl,hi,hj,by omega,h}
theorem gt_tup{prog:aM}{w:bO}{A:cj}{E:ae->ao->Prop}{s:ao}{l b:aa}{xs ys:Array ae}{ns ms:List Int}{Q:ae->ao->Prop}(hl:rJ s.heap l xs)(hb:rJ s.heap b ys)(hi:dQ xs.toList ns)(W:dQ ys.toList ms)
  (hu:A.units<eN) (h:Q (.bool (lexLt ms ns)) s):aX (bA prog w) A (c5 .Gt (.ref l) (.ref b)) Q E s:=by
 obtain⟨⟨c1,dd,t1,sl⟩,Y,rfl,n,rfl⟩:=id hl;obtain⟨⟨U,V,O,sm⟩,Z,rfl,m,rfl⟩:=id hb;exact kP (op:=.Gt) {_,Y,rfl} {_,Z,rfl} zU zf (yg _ _) (J0 l b xs ys n m dd V sl sm ns ms hi W)
  {Y,Z,show Value.bool (lexLt ms ns)≠Value.notImplemented/\Q (.bool (lexLt ms ns)) s from{(fun x=>nomatch x),h}} hu
end HT
namespace L2
open PySem PySem.Spec PyProof.Rows
theorem vd:∀{ns ms:List Int},ns.map V.int=ms.map V.int->ns=ms
 | [],[],_=>rfl
 | [],_::_,h=>by cases h
 |_::_,[],h=>by cases h
 |x::a,y::b,h=>by
  injection h with h1 h2;injection h1 with h1;rw[h1,vd h2]
section
variable{X:Cx}
theorem yh{P:aM}{w:bO}{H:Hp}{s:ao}(ok:HOk P w H s.heap){A:cj}{a b:aa}{ns ms:List Int}(hu:A.units<eN)(ha:H a=some (.tup (ns.map V.int)))(hb:H b=some (.tup (ms.map V.int))) :
  xy A s (.ref a) (.ref b) (decide (ns=ms)):=by
 by_cases e:a=b
 ·subst e;rw[ha]at hb;injection hb with hb;injection hb with hb;rw[vd hb,decide_eq_true rfl];exact Bu _
 ·obtain⟨us,r1,i1⟩:=jc ok ha;obtain⟨vs,r2,i2⟩:=jc ok hb;have k1:dQ us ns:=intsAre_of r1;have k2:dQ vs ms:=intsAre_of r2;have at_:∀{us:List ae} {ns:List Int},dQ us ns->∀(j:Nat) (h:j<us.length),∃(z:Int) (t:Tok),us[j]=.int z t/\ns[j]?=some z:=by
   intro us ns k
   induction k with
   |nil=>intro j h;exact absurd h (gz _)
   |cons z t _ J=>
    intro j h
    cases j with
    |zero=>exact⟨z,t,rfl,rfl⟩
    |succ j=>exact J j (qA h)
  have Z:=SeqAt.RcAt.tuples (A:=A) (e:=fun j=>decide (ns[j]?=ms[j]?)) i1 i2 hu fun j h1 h2=>by
   obtain⟨x,t,e1,U⟩:=at_ k1 j (by simpa using h1);obtain⟨y,t',e3,O⟩:=at_ k2 j (by simpa using h2);rw[U,O];have z:=q9 (A:=A.in1) (s:=s) x t y t';have q:(x==y)=decide (some x=some y):=by
    by_cases e:x=y
    ·subst e;simp
    ·have Y:¬some x=some y:=fun q=>e (dP q);rw[decide_eq_false Y,beq_eq_false_iff_ne.mpr e]
   rw[q]at z;simpa[e1,e3] using z
  have fin:((kL (min us.toArray.size vs.toArray.size)).all (fun j=>decide (ns[j]?=ms[j]?))&&us.toArray.size==vs.toArray.size)=decide (ns=ms):=by
   have D:us.toArray.size=ns.length:=by rw[aF];exact k1.length
   have I:vs.toArray.size=ms.length:=by rw[aF];exact k2.length
   rw[D,I]
   by_cases c:ns=ms
   ·subst c;simp
   ·rw[decide_eq_false c,Bool.and_eq_false_iff]
    by_cases l:ns.length=ms.length
    ·left
     rw[List.all_eq_false];refine vM fun W=>c (GX fun j=>?_)
     by_cases g:j<ns.length
     ·refine vM fun ne=>W {j,rM.mpr (by omega),?_};rw[decide_eq_false ne];simp
     ·rw[gL (by omega),gL (by omega)]
    ·right
     exact beq_eq_false_iff_ne.mpr l
  rw[fin]at Z;exact SeqAt.EqAt.of_refs e Z
open Classical in
def J1:V->List V->Hp->VK->Prop:=fun x vs H Q=>∃l xs i y,x=.ref l/\vs=[.int (i:Nat),y]/\H l=some (.lst xs)/\i<=xs.length/\xs.length<aB/\Q .non (upd H l (.lst (xs.take i++y::xs.drop i)))
theorem EL:MtM X "list.insert" J1:=by
 intro pins s σ H x vs v us Q I D rv h;obtain⟨l,xs,i,y,rfl,rfl,J,hi,hz,q⟩:=h
 cases D;obtain⟨u,V,rfl,ru,O⟩:=rv.two;obtain⟨t,rfl⟩:=ru;obtain⟨z,Z,n,r,hl,e⟩:=I.lstM J;have W:Z.toArray.size<=aB:=by rw[aF];omega
 generalize hx:((i:Nat):Int)=x;have U:uc x=true:=by
  have g:aB=16777216:=mw;exact fitsIndex_both (by omega) (by omega)
 have Y:¬(!uc x)=true:=by rw[U];exact aY
 refine sJ F.slot_list_insert {_,e,rfl} F.entry_list_insert (F.args_list_insert_3 _ _ _) (O3 l Z.toArray n x t V Y W) {e,?_};refine{.non,_,I.lset (its':=Z.take i++V::Z.drop i) J e ?_ ((r.take i).append (.cons O (r.drop i))) ?_,rfl,q}
 ·have k:(if x<0 then (x+(Z.toArray.size:Int)).toNat else min x.toNat Z.toArray.size)=i:=by
   rw[if_neg (by omega),aF];omega
  show (Z.toArray.extract 0 (if x<0 then (x+(Z.toArray.size:Int)).toNat else min x.toNat Z.toArray.size)).push V++Z.toArray.extract (if x<0 then (x+(Z.toArray.size:Int)).toNat else min x.toNat Z.toArray.size)=_;rw[k];apply Array.toList_inj.mp;simp[List.extract_eq_take_drop];exact A8 (by rw[kM];exact ax _)
 ·rw[ay,aS,dH,kM];omega
theorem C0{z:V}(h:sc0 z):scal z z=true:=by
 cases z with
 |non=>rfl
 |bl b=>rfl
 |int i=>rfl
 |str x=>rfl
 |byt b=>exact cY h
 |flt b=>exact cY h
 |ref a=>exact cY h
 |ty a=>exact cY h
theorem BH(hu:X.A.units+50<eN):OpR X (c5 .Eq) (fun x y H Q=>∃n,n<=20/\TEq H n x y/\Q (.bl true) H):=by
 intro pins s σ H x y v u Q I V W h;obtain⟨n,J,d,q⟩:=h;have sc:∀z,sc0 z->x=z->y=z->aX (bA X.prog X.w) X.A (c5 .Eq v u) (EP X pins σ Q) X.xe s:=by
  rintro z O rfl rfl;refine fc pins s σ H _ _ v u Q I V W {C0 O,?_};rw[decide_eq_true rfl];exact q
 have U:∀p Z,x=.ref p->y=.ref Z->aX (bA X.prog X.w) X.A (c5 .Eq v u) (EP X pins σ Q) X.xe s:=fun p Z e1 Y=>
  NB hu pins s σ H x y v u Q I V W {0,p,Z,by omega,e1,Y,⟨n,J,d⟩,q}
 cases n with
 |zero=>exact sc x d.1 rfl d.2.symm
 |succ n=>
  rcases d with⟨h1,h2⟩|⟨p,Z,_,_,e1,Y,_⟩|⟨p,Z,_,_,e1,Y,_⟩
  ·exact sc x h1 rfl h2.symm
  ·exact U p Z e1 Y
  ·exact U p Z e1 Y
theorem GY(hu:X.A.units+50<eN):OpR X (c5 .NotEq) (fun x y H Q=>∃n,n<=20/\TEq H n x y/\Q (.bl false) H):=by
 intro pins s σ H x y v u Q I V W h;obtain⟨n,J,d,q⟩:=h;have sc:∀z,sc0 z->x=z->y=z->aX (bA X.prog X.w) X.A (c5 .NotEq v u) (EP X pins σ Q) X.xe s:=by
  rintro z O rfl rfl;refine Cq pins s σ H _ _ v u Q I V W {C0 O,?_};rw[decide_eq_true rfl];exact q
 have U:∀p Z,x=.ref p->y=.ref Z->aX (bA X.prog X.w) X.A (c5 .NotEq v u) (EP X pins σ Q) X.xe s:=fun p Z e1 Y=>
  GV hu pins s σ H x y v u Q I V W ⟨n,p,Z,J,e1,Y,d,q⟩
 cases n with
 |zero=>exact sc x d.1 rfl d.2.symm
 |succ n=>
  rcases d with⟨h1,h2⟩|⟨p,Z,_,_,e1,Y,_⟩|⟨p,Z,_,_,e1,Y,_⟩
  ·exact sc x h1 rfl h2.symm
  ·exact U p Z e1 Y
  ·exact U p Z e1 Y
end
section
variable{X:Cx}{pins:List (aa×Obj)}{σ:St}{H:Hp}{s:ao}{d:aa}
theorem Inv.swap{o o':HO}(I:Inv X pins σ H s)(e:H d=some o)(nt:∀xs,o≠.tup xs)(nb:∀ps,o≠.tbl ps)(nw:∀a,o≠.own a)(V:∀ob u,X.H₀ d≠some (.frz ob u))(ok:eP X.prog X.w (upd H d o') s.heap d o'):Inv X pins σ (upd H d o') s:=by
 have Z:∀b,H b=none->upd H d o' b=none:=fun b z=>by
  rw[aN (aw e z).symm];exact z
 have Y:∀b xs,H b=some (.tup xs)->upd H d o' b=some (.tup xs):=fun b xs z=>by
  rw[aN (pO z e (fun q=>nt xs q.symm))];exact z
 have W:∀b a,H b=some (.own a)->upd H d o' b=some (.own a):=fun b a z=>by
  rw[aN (pO z e (fun q=>nw a q.symm))];exact z
 refine{I.ok,I.os,I.bare,{I.base.keep,I.base.slot,fun b ob q n hx=>Z b (I.base.free b ob q n hx),I.base.there,fun b xs q=>Y b xs (I.base.tups b xs q),fun b ob u q=>?_,fun b ps q=>?_},I.loc,I.cell,Z _ I.free,fun x c q=>Z c (I.freeC x c q),fun p hp=>?_,fun b u q=>?_,I.len}
 ·have z:=I.base.frzs b ob u q;have nd:b≠d:=fun y=>V ob u (by rw[<- y];exact q);rw[aN nd];exact z
 ·obtain⟨more,z⟩:=I.base.tbls b ps q;refine{more,?_};rw[aN (pO z e (fun y=>nb _ y.symm))];exact z
 ·obtain⟨h1,h2,U⟩:=I.pin p hp;exact{h1,Z _ h2,U}
 ·by_cases z:b=d
  ·subst z;rw[aj]at q
   cases q;exact ok
  ·rw[aN z]at q;exact (I.hok b u q).stay (fun c v _ y=>y) (fun c y=>W c b y) Y
theorem Inv.freeze{kvs:List (Key×V)}(I:Inv X pins σ H s)(e:H d=some (.dK kvs))(Y:∀ob u,X.H₀ d≠some (.frz ob u)):∃od,s.heap.get? d=some od/\Inv X pins σ (upd H d (.frz od (.dK kvs))) s:=by
 obtain⟨h1,h2,vs,r,ob,es,ep,g1,Z⟩:=(show eP X.prog X.w H s.heap d (.dK kvs) from I.hok d _ e);exact{ob,g1,I.swap e (fun xs z=>by cases z) (fun ps z=>by cases z) (fun a z=>by cases z) Y ⟨g1,h1,h2,vs,r,ob,es,ep,g1,Z⟩}
theorem Inv.thaw{kvs:List (Key×V)}{od:Obj}(I:Inv X pins σ H s)(e:H d=some (.frz od (.dK kvs)))(Z:∀ob u,X.H₀ d≠some (.frz ob u)):Inv X pins σ (upd H d (.dK kvs)) s:=by
 obtain⟨_,h1⟩:=(show eP X.prog X.w H s.heap d (.frz od (.dK kvs)) from I.hok d _ e);exact I.swap e (fun xs z=>by cases z) (fun ps z=>by cases z) (fun a z=>by cases z) Z h1
end
def Iti(d:aa)(od:Obj)(kvs:List (Key×V)):It:=
 {fun i H=>H d=some (.frz od (.dK kvs))/\i<kvs.length,fun i H x H'=>∃t Z,x=.ref t/\H t=none/\kvs[i]?=some Z/\H'=upd H t (.tup [kV Z.1,Z.2]),fun i H=>H d=some (.frz od (.dK kvs))/\kvs.length<=i}
theorem KV.at_{kvs:List (Key×V)}{vs:List (Key×ae)}(r:KV kvs vs):∀{i:Nat} {Z:Key×V},kvs[i]?=some Z->∃u,vs[i]?=some (Z.1,u)/\RelV Z.2 u:=by
 induction r with
 |nil=>intro i Z h;simp at h
 |cons a _ Y=>
  intro i Z h
  cases i with
  |zero=>
   simp at h;subst h;exact{_,by rw[List.getElem?_cons_zero,a.1],a.2}
  |succ i=>
   obtain⟨u,h1,h2⟩:=Y (by simpa using h);exact{u,by simpa using h1,h2}
theorem NC{P:aM}{w:bO}{k:Key}{u:ae}(h:(eZ P w).is k u=true):RelV (kV k) u:=by
 rcases gB h with⟨i,t,rfl,rfl⟩|⟨x,t,rfl,rfl⟩
 ·exact⟨t,rfl⟩
 ·exact⟨t,rfl⟩
theorem uz:entryFor table "dict_itemiterator.__iter__"=some ic.«dict_keyiterator.__iter__»:=
 entryFor_alias (id':="dict_keyiterator.__iter__") (by kernel_rfl) rfl (by decide +kernel) (by kernel_rfl)
section
variable{P:aM}{w:bO}{K:af}
def J2(o:Obj):Nat:=match o.data with|.dict _ ep=>ep|_=>0
theorem BI{X:Cx}{pins:List (aa×Obj)}{σ:St}{H:Hp}{s:ao}{d:aa}{od:Obj}{kvs:List (Key×V)}(I:Inv X pins σ H s)(e:H d=some (.frz od (.dK kvs))):∃vs,KV kvs vs/\s.heap.DictAt (eZ X.prog X.w) d vs (J2 od):=by
 obtain⟨g0,h1,h2,vs,r,ob,es,ep,g1,Y,Z,W⟩:=(show eP X.prog X.w H s.heap d (.frz od (.dK kvs)) from I.hok d _ e);rw[g0]at g1
 cases g1;have U:J2 od=ep:=by
  unfold J2;rw[Z]
 rw[U];exact⟨vs,r,od,es,g0,Y,Z,W⟩
theorem BJ{elts:List cU} {x1} {pos:Pos} (d it:aa) (od:Obj) (kvs:List (Key×V)) (bW:d≠it):Er P w K (.Tuple elts x1 pos) (Iti d od kvs) [it] it (fun i h=>∃ok Y,IsItemIter h it d i kvs.length (J2 od) ok Y) where
 mem:=by simp
 obj:=fun i h st b hb=>by
  have e:b=it:=by simpa using hb
  subst e;obtain⟨ok,Y,e⟩:=st;exact{_,e,fun v z=>by cases z}
 keep:=fun i h h' ⟨ok,Y,st⟩ k=>{ok,Y,k it (by simp) _ st}
 item:=by
  intro X hP hw hK hc i pins s σ H E I hf st hg;subst hP hw hK;obtain⟨ok,Y,st⟩:=st;obtain⟨hd,hi⟩:=hg;obtain⟨vs,r,da⟩:=BI I hd;have hl:=r.length;have W:kvs[i]?=some kvs[i]:=aH hi;obtain⟨u,hu,ru⟩:=r.at_ W;obtain⟨O,f1,f2,f3,f4,g⟩:=hf it (by simp);rw[hl]at st;refine wpAny_pyNext_items_item st da hu fun key h' hk J ce bI kp=>?_;have I1:Inv X pins σ H {s with heap:=h'}:=I.turned (t':=s.toks) (fun b o hb e=>kp b o hb e) O f1 f3 f4 g;refine{_,rfl,wpAny_letOwnedTupleGo_items J fun h2 U sb=>?_};have Z:Inv X pins σ H {s with heap:=h2}:=I1.turned (t':=s.toks) (fun b o hb e=>sb.extBut b o hb e) O f1 f3 f4 g;have fr:H s.heap.objs.size=none:=I.hok.fresh (ax _);have D:s.heap.objs.size≠it:=(aQ (aP st)).symm;have e2:h2.get? s.heap.objs.size=some {cls:=.type "tuple",data:=.seq #[key,u]}:=sb.extBut _ _ D ce;have I3:Inv X pins σ (upd H s.heap.objs.size (.tup [kV kvs[i].1,kvs[i].2])) {s with heap:=h2}:=by
   have cd:∀b v,s.heap.get? b=some v->b≠it->h2.get? b=some v:=fun b v q n=>sb.extBut b v n (kp b v n q);exact⟨Z.ok,Z.os,Z.bare,⟨Z.base.keep,Z.base.slot,fun b ob q n hx=>by
     have z:=Z.base.free b ob q n hx
     by_cases y:b=s.heap.objs.size
     ·exfalso;have lt:b<s.heap.objs.size:=bM (aP q) I.sz;rw[y]at lt;exact absurd lt (hW _)
     ·rw[aN y];exact z,Z.base.there,fun b xs q=>by
     rw[aN (aw (Z.base.tups b xs q) fr)];exact Z.base.tups b xs q,fun b ob v q=>by
     rw[aN (aw (Z.base.frzs b ob v q) fr)];exact Z.base.frzs b ob v q,fun b ps q=>by
     obtain⟨m,z⟩:=Z.base.tbls b ps q;exact{m,by rw[aN (aw z fr)];exact z}⟩,Z.loc,Z.cell,by
     rw[aN (aQ I.lt)];exact Z.free,fun x c q=>by
     obtain⟨v,y⟩:=I.cell x c q;rw[aN (aQ y.lt)];exact Z.freeC x c q,fun p hp=>by
     obtain⟨h1,ci,h3⟩:=Z.pin p hp;obtain⟨g1,_⟩:=I.pin p hp;refine{h1,?_,h3};rw[aN (aQ (aP g1))];exact ci,fun b v q=>by
     by_cases y:b=s.heap.objs.size
     ·subst y;rw[aj]at q
      cases q;exact{(by show 2<=aB;decide),[key,u],.cons (NC hk) (.cons ru .nil),_,e2,rfl,0,rfl}
     ·rw[aN y]at q;exact (Z.hok b v q).stay (fun c v' _ z=>z) (fun c z=>by rw[aN (aw z fr)];exact z) fun c xs z=>by rw[aN (aw z fr)];exact z,Z.len⟩
  refine{.ref s.heap.objs.size,_,I3,rfl,{_,_,rfl,fr,W,rfl},{_,_,by rw[hl];exact U},fun b hb=>?_};have e:b=it:=by simpa using hb
  subst e;rw[aN (gi D)];exact O
 done:=by
  intro X hP hw hK hc i pins s σ H E I hf st hg;subst hP hw hK;obtain⟨ok,Y,st⟩:=st;obtain⟨hd,hi⟩:=hg;obtain⟨vs,r,da⟩:=BI I hd;have hl:=r.length;obtain⟨O,f1,f2,f3,f4,g⟩:=hf it (by simp);rw[hl]at st;exact wpAny_pyNext_items_end (I.ok.hd hc) st da (gL (by omega)) fun h' eb=>{rfl,I.turned (t':=s.toks) (fun b o hb e=>eb b o hb e) O f1 f3 f4 g}
 self:=fun A i s Q E ⟨ok,Y,st⟩ h=>by
  have ty:s.TypeIs (.ref it) "dict_itemiterator":={_,st,rfl};refine xM ty F.slot_dict_itemiterator_iter (lN F.slot_dict_itemiterator_iter ty uz ?_ (F.args_dict_itemiterator_iter_1 _));show aX _ _ (ret (.ref it)) _ _ s;exact aO {_,rfl,"dict_itemiterator",_,ty,F.slot_dict_itemiterator_next.lookup,h}
end
section
variable{X:Cx}{o:cU}{to:TE}{apos cpos:Pos}{elts:List cU}{x1:Nat}{pos:Pos}
def ND(X:Cx)(to:TE):TI:=fun σ H R=>to σ H fun x H1=>∃d kvs,x=.ref d/\H1 d=some (.dK kvs)/\(∀ob u,X.H₀ d≠some (.frz ob u))/\∀od,R (Iti d od kvs) (upd H1 d (.frz od (.dK kvs)))
theorem GZ(ho:PE X o to)(Y:me o "items" X.env (gf o X.env)=gf o X.env:=by rfl)(Z:(apos.endLine==cpos.line)=true:=by rfl):PI X (.Tuple elts x1 pos) (.Call (.Attribute o "items" apos) [] [] cpos) (ND X to):=by
 intro pins s σ H R I h;refine Fo Y Z (thn (ho pins s σ H _ I h) fun v W ⟨x,H1,O,r1,d,kvs,ex,hd,D,q⟩=>?_);subst ex
 cases r1;obtain⟨hz,n1,J,k1,V⟩:=(show eP X.prog X.w H1 W.heap d (.dK kvs) from O.hok d _ hd);obtain⟨ob,_,_,g1,g,_⟩:=id V;refine{"dict","dict.items",PySem.F.plainAttrs_dict,yi,PySem.F.type_dict_items,V.typeIs,fun a e=>?_,pY rfl (Cy ?_)}
 ·cases e;exact⟨ob,g1,g.2.1⟩
 refine GH yi V.typeIs PySem.F.entry_dict_items (PySem.F.args_dict_items_1 _) (meets_dict_items (eZ X.prog X.w) d n1) {⟨J,V⟩,?_};have z:Inv X pins σ H1 {W with heap:=W.heap.push {cls:=.type "dict_items",data:=.fields #[.ref d]}}:=O.kept (t':=W.toks) fun b ob q=>aJ _ q;obtain⟨od,g3,U⟩:=z.freeze hd D;obtain⟨vs,r,da⟩:=BI U (aj:upd H1 d (.frz od (.dK kvs)) d=_);refine wpAny_pyIter_items {_,cz _ rfl,rfl,rfl} da ?_;have lt:=aP g3;refine{_,[_],_,_,_,rfl,U.kept (t':=W.toks) fun b ob q=>aJ _ q,BJ d _ od kvs (aQ lt),{.none,.none,?_},fun b hb=>?_,q od}
 ·rw[r.length];exact cz _ rfl
 ·have e:b=_:=aD.mp hb;subst e;exact U.fpOk (ax _) (U.hok.fresh (ax _))
end
theorem EM{d:aa}{od:Obj}{kvs:List (Key×V)}{g:TG}{tb:TS}{D:nv}{σ:St}{H:Hp}(Z:Nat->St->Hp->Prop)(h0:Z 0 σ H)(hl:∀i σ H,i<=kvs.length->Z i σ H->H d=some (.frz od (.dK kvs)))
  (hs:∀i O t σ H,kvs[i]?=some O->Z i σ H->H t=none->g (.ref t) σ (upd H t (.tup [kV O.1,O.2])) fun Y H2=>tb {D with nx:=Z (i+1),ct:=Z (i+1),bk:=D.nx} Y H2) (hd:∀σ H,Z kvs.length σ H->D.nx σ H) :
  ∃W:Nat->Nat->St->Hp->Prop,(∃m,W 0 m σ H)/\∀i m σ H,W i m σ H ->
   ((Iti d od kvs).stop i H/\D.nx σ H)\/((Iti d od kvs).go i H/\∃N:St->Hp->Prop,(∀U H',N U H'->∃J,J<m/\W (i+1) J U H')/\∀x H',(Iti d od kvs).yld i H x H'->g x σ H' fun Y H2=>tb {D with nx:=N,ct:=N,bk:=D.nx} Y H2):=by
 refine{fun i m σ H=>m=kvs.length-i/\i<=kvs.length/\Z i σ H,{kvs.length,by simp,cm _,h0},?_};rintro i m σ H ⟨rfl,hi,p⟩;have q:=hl i σ H hi p
 by_cases lt:i<kvs.length
 ·refine .inr {⟨q,lt⟩,Z (i+1),fun U H' I=>{kvs.length-(i+1),by omega,rfl,lt,I},fun x H' y=>?_};obtain⟨t,O,rfl,ht,hk,rfl⟩:=y;exact hs i O t σ H hk p ht
 ·have e:i=kvs.length:=by omega
  subst e;exact .inl {{q,ax _},hd σ H p}
def LA(X:Cx)(D:nv):nv where
 nx:=fun σ H=>∃d od kvs,H d=some (.frz od (.dK kvs))/\(∀ob u,X.H₀ d≠some (.frz ob u))/\D.nx σ (upd H d (.dK kvs))
 rt:=D.rt
 bk:=D.bk
 ct:=D.ct
theorem J3{X:Cx}{st:cX}{t:TS}(h:PS X st t):PS X st (fun D σ H=>t (LA X D) σ H):=by
 intro pins s σ H D I q;refine thn (h pins s σ H (LA X D) I q) fun fl V z=>?_
 cases fl with
 |next=>
  obtain⟨Z,H',W,d,od,kvs,e,Y,y⟩:=z;exact{Z,_,W.thaw e Y,y}
 |brk=>exact z
 |cont=>exact z
 |ret u=>exact z
end L2
namespace L2
open PySem PySem.Spec PyProof.Rows PySem.SeqAt
section
variable{P:aM}{w:bO}{H:Hp}{s:ao}
end
section
variable{X:Cx}
end
end L2
namespace L2
open PySem PySem.Spec PyProof.Rows
section
variable{prog:aM}{w:bO}{A:cj}{E:ae->ao->Prop}{s:ao}
end
section
variable{X:Cx}
end
structure lQ(K:af)(C:aa):Prop where
 ga:aU K (.ref C) "__getattribute__"=some (some (.builtin "BaseException.__getattribute__"))
 gh:aU K (.ref C) "__getattr__"=some none
 cl:aU K (.ref C) "__class__"=some (some (.builtin "object.__class__"))
 cn:Cs K (.builtin "object.__class__") "__get__"=some (some (.builtin "getset_descriptor.__get__"))
 ck:Fi K (.builtin "object.__class__")=some true
 ob:xx K C (.type "object")=some true
 be:xx K C (.type "BaseException")=some true
theorem lQ.cs{K:af}{C:aa}(c:lQ K C):∃Z,xO K C=some Z:=by
 obtain⟨Z,a,_⟩:=Option.bind_eq_some_iff.mp c.ob;exact⟨Z,a⟩
theorem BK:Manifest.canonical "BaseException.__getattribute__"="object.__getattribute__":=by decide +kernel
section
variable{prog:aM}{w:bO}{A:cj}{E:ae->ao->Prop}{s:ao}{K:af}{x C:aa}{ox:Obj}
theorem Ha{f:aa}{name:Str}{pl:Sem Bool}{Q:ae×List ae->ao->Prop}(X:K.In s.heap)(I:jC s.heap x ox C none)(c:lQ K C)(Z:aU K (.ref C) name=some (some (.ref f)))(ht:FO K (.ref f)=some (.type "function"))
  (h:Q (.ref f,[.ref x]) s):aX (bA prog w) A (oU (.ref x) name pl) Q E s:=by
 unfold oU specialOf;refine ai (ai (I.type.here ((gS X c.ga).here ?_)));dsimp only;rw[BK,if_neg (by decide)];refine ai (ai (I.type.here ((gS X c.gh).here ?_)));refine ai (ai (I.type.here ((gS X Z).here (ai ((PySem.W.looks_typeIn X ht).here ?_)))));rw[if_neg (by decide +kernel)];refine ai (Bg I.at_ ?_);have hd:=I.dict
 cases e:ox.dict with
 |none=>exact ai (BD (aO h))
 |some dx=>rw[e]at hd;exact hd.elim
theorem EN{Z:ae}{Q:Unit->ao->Prop}(X:K.In s.heap)(I:jC s.heap x ox C none)(c:lQ K C)(h:Q () s):aX (bA prog w) A (checkBuiltinCall "BaseException.__getattribute__" {[.ref x,Z],[]}) Q E s:=by
 obtain⟨hh,g,d,t,os⟩:=s;have hk:builtinKind "BaseException.__getattribute__"=some .slot:=by decide +kernel
 have Y:splitId "BaseException.__getattribute__"=some ("BaseException","__getattribute__"):=by decide +kernel
 have ha:=F.args_bexc_ga (.ref x) Z;have U:=I.type (M:=bA prog w);have V:=PySem.W.looks_mroIn (M:=bA prog w) X c.be;simp only[checkBuiltinCall,hk,Y];refine ai ?_;unfold isInstance;refine ai (U.at (V.at ?_))
 repeat (first|assumption|wp_step)
theorem EO{Q:Option ae->ao->Prop}(X:K.In s.heap)(I:jC s.heap x ox C none)(c:lQ K C)(h:Q (some (.ref C)) {s with toks:=s.toks+1}):aX (bA prog w) A (JT (.ref x) "__class__") Q E s:=by
 have V:=I.type (M:=bA prog w);have O:=gS (M:=bA prog w) X c.ga;have Z:=gS (M:=bA prog w) X c.gh;have J:Fu K C none "__class__"=some (.bind (.builtin "getset_descriptor.__get__") (.builtin "object.__class__")):=by
  obtain⟨H,hc⟩:=c.cs;unfold Fu;rw[hc,Fv,c.cl,Fv];simp[c.cn,c.ck]
 have U:=PySem.W.looks_find (M:=bA prog w) X I J;obtain⟨hh,g,d,t,os⟩:=s;unfold JT getAttrBy? getAttrBy;refine ai (wpAny_mkText (ai (wpAny_attempt (dU (ai (V.at (ai (O.at ?_))))))));dsimp only;rw[if_neg (show ¬((onTheHeap (Value.ref C)&&Value.builtin "BaseException.__getattribute__"==Value.builtin "object.__getattribute__")=true) by rw[show (Value.builtin "BaseException.__getattribute__"==Value.builtin "object.__getattribute__")=false by decide +kernel,Ls];decide)];unfold getAttrByItsOwn hookBefore;rw[if_pos (show onTheHeap (Value.ref C)=true from rfl)];refine ai (Z.at (ai (wpAny_attempt (dU ?_))));unfold callGetattribute boundAndCalled;rw[if_neg (show ¬((false&&onTheHeap (Value.builtin "BaseException.__getattribute__"))=true) by decide),F.excAttr_ValueError.ga.bind];refine ai (aO (sI (codeAny_call_builtin F.excAttr_ValueError.ga.plain F.entry_bexc_ga (EN (s:={hh,g,d,t+1,os}) X I c ?_))));have fin:∀(Y:cj) (R:FN->ao->Prop),R (.ok (.ret (.ref C))) {hh,g,d,t+1,os}->oh (bA prog w) Y (.call (.builtin "getset_descriptor.__get__") {[.builtin "object.__class__",.ref x,.ref C],[]}) R {hh,g,d,t+1,os}:=fun Y R q=>PySem.W.class_get (s:={hh,g,d,t+1,os}) X I c.ob q;unfold ic.«object.__getattribute__» slotArgs;refine ai (aO ?_);refine ai (aO ?_);refine ai (V.at (ai (U.at ?_)));unfold Jn;refine ai (dU (sI (fin _ _ ?_)));refine aO ?_;exact PySem.W.handed_on rfl (aO h)
theorem Ar(c:lQ K C):PySem.W.KitX K (.ref x) (.ref C) (fun h=>jC h x ox C none) where
 ty:=fun _ _ _ I=>I.type
 it:=fun _ _ X _=>by
  obtain⟨U,hc⟩:=c.cs;unfold xO at hc
  split at hc
  ·rename_i c' d' cd' sl' ho
   intro O J E' s' k q;unfold isType loadHead;exact ai (Bg (k _ _ (X _ _ ho)) (aO q))
  ·cases hc
 ne:=fun h Y dd V n sl X Z=>by
  obtain⟨U,hc⟩:=c.cs;refine Bool.eq_false_iff.mpr fun q=>?_;have e:C=Y:=Value.ref.inj (beq_iff_eq.mp q);subst e;unfold xO at hc
  split at hc
  ·rename_i c' d' cd' sl' ho
   have z:=(X _ _ ho).symm.trans Z
   cases z
  ·cases hc
 ca:=fun X I k=>EO X I c k
end
def XOk(a C:aa)(h:cC):Prop:=∃ob,h.get? a=some ob/\ob.cls=.ref C/\ob.dict=none/\Hc ob=true
def XO(a C:aa):HO:=.ext (XOk a C)
theorem XOk.obj{P:aM}{w:bO}{H:Hp}{h:cC}{a C:aa}(x:XOk a C h):eP P w H h a (XO a C):=by
 obtain⟨ob,e,r⟩:=x;refine{⟨ob,e,r⟩,⟨ob,e⟩,fun h1 h2 y k=>?_};obtain⟨o,e1,r1⟩:=y;exact{o,k o e1,r1}
theorem XOk.inst{h:cC}{a C:aa}(x:XOk a C h):∃ox,jC h a ox C none:=by
 obtain⟨ob,e,c,d,n⟩:=x;exact{ob,e,c,n,by rw[d];trivial}
theorem BL{P:aM}{w:bO}{H:Hp}{h:cC}{a C:aa}(ok:HOk P w H h)(e:H a=some (XO a C)):XOk a C h:=(ok a _ e).1
section
variable{X:Cx}{pins:List (aa×Obj)}{σ:St}{H:Hp}{s:ao}
theorem eV:jT X (.builtin "isinstance") (fun xs H Q=>∃a C Z c b,xs=[.ref a,Z]/\RelV Z c/\(∀u,RelV Z u->u=c)/\H a=some (XO a C)/\lQ X.K C/\bV X.K (.ref C) c=some b/\Q (.bl b) H):=by
 intro pins s σ H xs us Q I r h;obtain⟨a,C,Z,c,b,rfl,_,hu,e,cl,k,q⟩:=h;obtain⟨u,W,rfl,Y,rt⟩:=vals2 r
 cases (show u=Value.ref a from Y)
 cases hu _ rt;obtain⟨ox,J⟩:=(BL I.hok e).inst;exact eD (Ar cl) I.kIn J k (fun z=>nomatch z) fun tk=>{.bl b,H,I.tok _,rfl,q}
end
section
variable{P:aM}{w:bO}{H:Hp}{h h':cC}{a:aa}{o:HO}{fs ex:List aa}
end
section
variable{X:Cx}{pins:List (aa×Obj)}{σ:St}{H:Hp}{s:ao}{C:aa}{x:Str}{p pos:Pos}{e:cU}{es:List cU}{t:TA}
end
section
variable{X:Cx}{CX:CXT}{k:Nat}{f C:aa}{fd:bX}{ps:List Str}{sp:Sp}{E:XK}{m:Str}{pos apos:Pos}{o:cU}{ta:TE}
end
section
variable{X:Cx}{pins:List (aa×Obj)}{σ:St}{H:Hp}{s:ao}
theorem Inv.adopt{B:cC}{Z C:aa}{fl:ae}(I:Inv X pins σ H s)(f:FlD B X.stack Z (.ref C) fl s.heap)(V:xI X pins H B s.heap):H Z=none/\Inv X pins σ (upd H Z (XO Z C)) s:=by
 obtain⟨hB,hn,hl,U,vs,T,oT,ts,W,hc,J,hd,_⟩:=f;have O:Z∉frs X.stack:=fun z=>by
  obtain⟨_,o,ho,q⟩:=hl.mem z;rw[W]at ho
  cases ho;exact q vs hd
 have nb:∀o,B.get? Z≠some o:=fun o z=>by rw[hn]at z;cases z
 have g:H Z=none:=by
  cases z:H Z with
  |none=>rfl
  |some u=>exact absurd (V Z U (.inl (by rw[z];simp)) O W) (nb U)
 have ne:∀{b:aa} {o:HO},H b=some o->b≠Z:=fun {b o} z=>aw z g;refine{g,I.ok,I.os,I.bare,{I.base.keep,I.base.slot,fun b o e n hx=>?_,I.base.there,fun b xs e=>?_,fun b o u e=>?_,fun b ps e=>?_},I.loc,I.cell,?_,fun x c e=>?_,fun p hp=>?_,fun b u e=>?_,I.len}
 ·rw[aN]
  ·exact I.base.free b o e n hx
  ·rintro rfl;exact nb U (V _ U (.inr (.inl ⟨hx,o,e⟩)) O W)
 ·have z:=I.base.tups b xs e;rw[aN (ne z)];exact z
 ·have z:=I.base.frzs b o u e;rw[aN (ne z)];exact z
 ·obtain⟨more,z⟩:=I.base.tbls b ps e;exact{more,by rw[aN (ne z)];exact z}
 ·rw[aN]
  ·exact I.free
  ·intro z;obtain⟨m,⟨o,es,ep,ho,Y,_⟩,_⟩:=I.loc;rw[z,W]at ho
   cases ho;rw[hd]at Y
   cases Y
 ·rw[aN]
  ·exact I.freeC x c e
  ·intro z;obtain⟨v,o,ho,Y⟩:=I.cell x c e;rw[z,W]at ho
   cases ho;rw[hd]at Y
   cases Y
 ·obtain⟨e1,e2,e3,e4,e5⟩:=I.pin p hp;refine{e1,?_,e3,e4,e5};rw[aN]
  ·exact e2
  ·intro z;have D:s.heap.get? Z=some p.2:=by rw[<- z];exact e1
   rw[W]at D
   cases D;exact nb _ (V Z _ (.inr (.inr ⟨p,hp,z⟩)) O W)
 ·by_cases hb:b=Z
  ·subst hb;rw[aj]at e
   cases e;refine XOk.obj {U,W,hc,J,?_};unfold Hc;rw[hd]
  ·rw[aN hb]at e;exact (I.hok b u e).stay (fun _ _ _ q=>q) (fun c q=>by rw[aN (ne q)];exact q) fun c xs q=>by rw[aN (ne q)];exact q
theorem ER{M:Ju}{A:cj}{E:ae->ao->Prop}{i:Nat}{x:Str}{v:V}{Q:Unit->ao->Prop}(I:Inv X pins σ H s)(hN:X.N.Nodup)(hi:X.N[i]?=some x)(hk:X.env.scope.names.lookup x=some .local)(hv:σ[i]?=some (some v))
  (h:∀s',Inv X pins (σ.set i none) H s'->Q () s'):aX M A (unbindName X.env x) Q E s:=by
 obtain⟨m,hn,hl⟩:=id I.loc;have W:(X.env.scope.kind==.class||(X.env.scope.kind==.module&&X.env.locals != X.env.globals))=false:=by rw[I.ok.kind];rfl
 have Y:X.env.kindOf x=some .local:=hk;have bz:(m x).isSome=true:=by
  obtain⟨u,_,q⟩:=hl i x v hi hv (.inl hk)
  rcases q with⟨_,e⟩|⟨k,_⟩
  ·rw[e];rfl
  ·rw[Y]at k
   rcases k with k|k<;>cases k
 unfold unbindName;refine ai (wpAny_point (ai ?_));unfold deleteName;simp only[Y,W];rw[if_neg (by decide)];refine ai (wpAny_nsDel_keeps hn fun h' v' J hs=>?_);rw[bz];simp only[Bool.not_true,ue,if_false];refine aO (wpAny_point (h _ ?_));obtain⟨oL,_,_,bv,_⟩:=id hn;have cne:=I.cne;have Z:∀b o,X.s₀.heap.get? b=some o->b≠X.env.locals:=fun b o e=>aQ (bM (aP e) I.ok.above);refine{I.ok,I.os,I.bare,{fun b o e n hb hx=>(hs.2 b (Z b o e)).trans (I.base.keep b o e n hb hx),fun b o e n hb hx=>?_,I.base.free,fun b o e hx=>?_,I.base.tups,I.base.frzs,I.base.tbls},{_,J,fun j y v2 e1 U e3=>?_},fun y c e=>?_,I.free,I.freeC,fun p hp=>?_,fun b ob e=>?_,by simpa using I.len}
 ·obtain⟨sl,e1⟩:=I.base.slot b o e n hb hx;exact{sl,(hs.2 b (Z b o e)).trans e1}
 ·obtain⟨o',e1⟩:=I.base.there b o e hx;exact{o',(hs.2 b (Z b o e)).trans e1}
 ·by_cases O:j=i
  ·subst O;have g:j<σ.length:=(aG.mp hv).1;rw[fX g]at U
   cases U
  ·rw[iU (gi O)]at U;obtain⟨u',r',q⟩:=hl j y v2 e1 U e3;refine{u',r',?_}
   rcases q with⟨k,e⟩|⟨k,c,e,z⟩
   ·refine .inl {k,?_};have D:y≠x:=fun e=>O (vZ hN e1 (e ▸ hi));simp[D,e]
   ·exact .inr {k,c,e,z.sameBut hs (cne y c e)}
 ·obtain⟨w',z⟩:=I.cell y c e;exact{w',z.sameBut hs (cne y c e)}
 ·obtain⟨e,n,ne,nf,d⟩:=I.pin p hp;exact{(hs.2 p.1 ne).trans e,n,ne,nf,d}
 ·refine (I.hok b ob e).stay (fun c w' hc q=>(hs.2 c ?_).trans q) (fun _ q=>q) fun _ _ q=>q;rintro rfl
  rcases hc with rfl|hc
  ·rw[I.free]at e;cases e
  ·rw[I.free]at hc;cases hc
def C5(i:Nat)(D:nv):nv:={nx:=fun σ H=>D.nx (σ.set i none) H,rt:=D.rt,bk:=fun σ H=>D.bk (σ.set i none) H,ct:=fun σ H=>D.ct (σ.set i none) H}
def thAs(K:af)(Y:aa)(i:Nat)(t:TS)(th:TH):TH:=fun C D σ H=>
 (cN K (.ref C) (.ref Y)=some true/\∀Z,H Z=none->t (C5 i D) (σ.set i (some (.ref Z))) (upd H Z (XO Z C)))\/(cN K (.ref C) (.ref Y)=some false/\th C D σ H)
theorem vO{M:Ju}{A:cj}{E:ae->ao->Prop}{i:Nat}{x:Str}{pos:Pos}{Q:Unit->ao->Prop}(I:Inv X pins σ H s)(W:X.N.Nodup)(hi:X.N[i]?=some x)(hk:X.env.scope.names.lookup x=some .local)
  (h:∀s',Inv X pins (σ.set i none) H s'->Q () s'):aX M A (do bindName X.env x .none;uA X.env x pos) Q E s:=by
 have Z:i<σ.length:=by
  rw[I.len];exact (aG.mp hi).1
 refine ai (wpAny_bindName (s9 (v:=.non) I W hi (.inl hk) rfl (fun U V=>?_) (.inr hk)));unfold uA;refine wpAny_onRaise (ER (v:=.non) V W hi hk (fX Z) fun s2 Y=>h s2 ?_);rw[List.set_set]at Y;exact Y
theorem He{x n:Str}{Ci:aa}{np pos:Pos}{V:cX}{Z:List cX}{rest:List mh}{t:TS}{th:TH}(i:Nat)(hg:Gl X x)(hm:X.mg x=some (.ref Ci))(hN:X.N.Nodup)(hi:X.N[i]?=some n)(hk:X.env.scope.names.lookup n=some .local)
  (bz:∀Y,PSs (X.hdl Y) (V::Z) t) (hr:PHs X rest th) (hd:(x==("__debug__":Str))=false:=by decide):PHs X (.ExceptHandler (some (.Name x np)) (some n) (V::Z) pos::rest) (thAs X.K Ci i t th):=by
 intro pins s σ H D Y C B I fl U h;refine wpAny_handleBy_cons (codeAny_handlers_test ?_) (by intro q;cases q);refine qY (X:=X.hdl Y) (I.hdl Y) hg hm ?_ hd;obtain⟨ob,bF,hc⟩:=fl.there;have LT:PySem.W.Looks (bA X.prog X.w) s.heap (typeOf (.ref Y)) (.ref C):=by
  rw[<- hc];exact (PySem.W.Looks.ld bF).andThen .now
 rcases h with⟨hx,q⟩|⟨hx,q⟩
 ·refine (Fw I.kIn LT hx).here ?_;refine codeAny_handlers_suite_as (qy fl fun h6 bG bB=>?_);have I6:=I.landed bG.1 U bB;obtain⟨hz,J⟩:=I6.adopt bG (xI.land I bG.1 U);refine s9 (X:=X.hdl Y) (v:=.ref Y) (J.hdl Y) hN hi (.inl hk) rfl (fun s2 I2=>?_) (.inr hk);refine eK (bz Y pins _ _ _ (C5 i D) I2 (q Y hz)) (fun f s3 z=>?_) (fun _ _ z=>cY z);show aX _ X.A (do bindName X.env n .none;uA X.env n pos) (fun _ s₃=>SP X pins D f s₃) X.xe s3
  cases f with
  |next=>obtain⟨bH,H',g,q3⟩:=z;exact vO (g.unhdl I.ok) hN hi hk fun s4 O=>{_,_,O,q3}
  |brk=>obtain⟨bH,H',g,q3⟩:=z;exact vO (g.unhdl I.ok) hN hi hk fun s4 O=>{_,_,O,q3}
  |cont=>obtain⟨bH,H',g,q3⟩:=z;exact vO (g.unhdl I.ok) hN hi hk fun s4 O=>{_,_,O,q3}
  |ret u=>obtain⟨v,bH,H',g,r3,q3⟩:=z;exact vO (g.unhdl I.ok) hN hi hk fun s4 O=>{v,_,_,O,r3,q3}
 ·refine (Fw I.kIn LT hx).here ?_;exact hr pins s σ H D Y C B I fl U q
end
section
variable{X:Cx}{pins:List (aa×Obj)}{σ:St}{H:Hp}{s s2:ao}{h':cC}
theorem Inv.turned2{t':Nat}{e it:aa}(I:Inv X pins σ H s)(k:∀b o,b≠e->b≠it->s.heap.get? b=some o->h'.get? b=some o)(f:yN X pins H e)(g:yN X pins H it):Inv X pins σ H {s with heap:=h',toks:=t'}:=by
 have Z:∀b u,H b=some u->b≠e:=fun b u q z=>by rw[z,f.1]at q;cases q
 have Y:∀b u,H b=some u->b≠it:=fun b u q z=>by rw[z,g.1]at q;cases q
 obtain⟨f0,f1,f2,J,D,f5⟩:=f;obtain⟨g0,g1,g2,V,O,U⟩:=g;refine I.step (g':=s.gens) (d':=s.drawn) (ch:=[e,it]) (fun b hb=>?_) (fun b o _ _ hc q _=>k b o (fun z=>hc (by simp[z])) (fun z=>hc (by simp[z])) q) (fun b o _ _ hc q _=>{o.slots,k b o (fun z=>hc (by simp[z])) (fun z=>hc (by simp[z])) q}) (fun _ _ _ _ n=>n)
  (fun b o hc q=>{o,k b o (fun z=>hc (by simp[z])) (fun z=>hc (by simp[z])) q}) (fun _ _ q=>q) (fun _ _ _ q=>q) (fun b ps q=>{#[],by rw[q];simp}) (fun m hm=>?_) (fun b u q=>?_) I.bare
 ·rcases ar.mp hb with z|z
  ·subst z;exact⟨J,f1,D,f5⟩
  ·have z:=aD.mp z;subst z;exact⟨V,g1,O,U⟩
 ·obtain⟨o,es,ep,ho,r⟩:=hm;exact{o,es,ep,k _ o (gi f1) (gi g1) ho,r}
 ·refine (I.hok b u q).stay (fun c v hc W=>k c v ?_ ?_ W) (fun _ q=>q) fun _ _ q=>q
  ·rcases hc with z|z
   ·rw[z];exact Z b u q
   ·exact Z c _ z
  ·rcases hc with z|z
   ·rw[z];exact Y b u q
   ·exact Y c _ z
theorem Inv.track{o:HO}(I:Inv X pins σ H s)(Z:Inv X pins σ H s2)(ok:eP X.prog X.w (upd H s.heap.objs.size o) s2.heap s.heap.objs.size o):Inv X pins σ (upd H s.heap.objs.size o) s2:=by
 have fr:H s.heap.objs.size=none:=I.hok.fresh (ax _);exact⟨Z.ok,Z.os,Z.bare,⟨Z.base.keep,Z.base.slot,fun b ob q n hx=>by
   have z:=Z.base.free b ob q n hx
   by_cases y:b=s.heap.objs.size
   ·exfalso;have lt:b<s.heap.objs.size:=bM (aP q) I.sz;rw[y]at lt;exact absurd lt (hW _)
   ·rw[aN y];exact z,Z.base.there,fun b xs q=>by
   rw[aN (aw (Z.base.tups b xs q) fr)];exact Z.base.tups b xs q,fun b ob v q=>by
   rw[aN (aw (Z.base.frzs b ob v q) fr)];exact Z.base.frzs b ob v q,fun b ps q=>by
   obtain⟨m,z⟩:=Z.base.tbls b ps q;exact{m,by rw[aN (aw z fr)];exact z}⟩,Z.loc,Z.cell,by
   rw[aN (aQ I.lt)];exact Z.free,fun x c q=>by
   obtain⟨v,y⟩:=I.cell x c q;rw[aN (aQ y.lt)];exact Z.freeC x c q,fun p hp=>by
   obtain⟨h1,Y,W⟩:=Z.pin p hp;obtain⟨g1,_⟩:=I.pin p hp;refine{h1,?_,W};rw[aN (aQ (aP g1))];exact Y,fun b v q=>by
   by_cases y:b=s.heap.objs.size
   ·subst y;rw[aj]at q
    cases q;exact ok
   ·rw[aN y]at q;exact (Z.hok b v q).stay (fun c V _ z=>z) (fun c z=>by rw[aN (aw z fr)];exact z) fun c xs z=>by rw[aN (aw z fr)];exact z,Z.len⟩
end
def Ite(K:af)(a:aa):It:=
 {fun i H=>∃xs x,SqL K H a xs/\xs[i]?=some x,fun i H x H'=>∃t y,x=.ref t/\H t=none/\(∀xs,SqL K H a xs->xs[i]?=some y)/\H'=upd H t (.tup [.int i,y]),fun i H=>∃xs,SqL K H a xs/\xs.length<=i}
section
variable{P:aM}{w:bO}{K:af}
theorem ES{elts:List cU} {x1} {pos:Pos} (a e it:aa) (W:e≠it):Er P w K (.Tuple elts x1 pos) (Ite K a) [e,it] e (fun i h=>∃old,IsEnum h e it (i:Int) old/\h.IsListIter it a i) where
 mem:=by simp
 obj:=fun i h st b hb=>by
  obtain⟨old,h1,h2⟩:=st
  rcases ar.mp hb with z|z
  ·subst z;exact{_,h1,fun v z=>by cases z}
  ·have z:=aD.mp z;subst z;obtain⟨o,e,c,d⟩:=h2;exact{o,e,fun v z=>by rw[d]at z;cases z}
 keep:=fun i h h' ⟨old,h1,h2⟩ k=>{old,k e (by simp) _ h1,h2.at fun o q=>k it (by simp) o q}
 item:=by
  intro X D hw g hc i pins s σ H E I V st hg;subst D hw g;obtain⟨old,Y,Z⟩:=st;obtain⟨xs,x,hq,hx⟩:=hg;obtain⟨O,rv,p,hz⟩:=I.list hq;obtain⟨u,hu,ru⟩:=rv.get hx;have F1:=V e (by simp);have F2:=V it (by simp);obtain⟨U,f1,f2,f3,f4,J⟩:=id F1;refine wpAny_pyNext_enum_item Y Z p.isList (x:=u) (by simpa using hu) W fun h' a1 a2 a3 a4 a5=>?_;have I1:Inv X pins σ H {s with heap:=h',toks:=s.toks+1}:=I.turned2 (t':=s.toks+1) (fun b o h1 h2 q=>a5 b o h1 h2 q) F1 F2;refine{_,rfl,wpAny_letOwnedTupleGo_enum a1 fun h2 e2 sb=>?_};have I2:Inv X pins σ H {s with heap:=h2,toks:=s.toks+1}:=I1.turned (t':=s.toks+1) (fun b o hb q=>sb.extBut b o hb q) U f1 f3 f4 J;have fr:H s.heap.objs.size=none:=I.hok.fresh (ax _);have n1:s.heap.objs.size≠e:=(aQ (aP Y)).symm;have n2:s.heap.objs.size≠it:=by
   obtain⟨o,q,_⟩:=Z;exact (aQ (aP q)).symm
  have t2:=sb.extBut _ _ n1 a3;have I3:=I.track I2 (o:=.tup [.int i,x]) {(by show 2<=aB;decide),[.int i s.toks,u],.cons {_,rfl} (.cons ru .nil),_,t2,rfl,0,rfl};refine{.ref s.heap.objs.size,_,I3,rfl,{_,x,rfl,fr,fun ys hy=>by rw[I.list_inj hy hq];exact hx,rfl},{u,e2,a2.extBut sb.extBut (gi W)},fun b hb=>?_}
  rcases ar.mp hb with z|z
  ·rw[z,aN (gi n1)];exact U
  ·rw[aD.mp z,aN (gi n2)];exact F2.1
 done:=by
  intro X D hw g hc i pins s σ H E I V st hg;subst D hw g;obtain⟨old,Y,Z⟩:=st;obtain⟨xs,hq,hx⟩:=hg;obtain⟨O,rv,p,hz⟩:=I.list hq;obtain⟨U,f1,f2,f3,f4,J⟩:=V it (by simp);have hl:=rv.length;exact wpAny_pyNext_enum_end (I.ok.hd hc) Y Z p.isList (by simp;omega) fun h' eb=>{rfl,I.turned (t':=s.toks) (fun b o hb e=>eb b o hb e) U f1 f3 f4 J}
 self:=fun A i s Q E ⟨old,st,_⟩ h=>by
  have ty:s.TypeIs (.ref e) "enumerate":={_,st,rfl};refine xM ty F.slot_enumerate_iter (lN F.slot_enumerate_iter ty F.entry_enumerate_iter ?_ (F.args_enumerate_iter_1 _));show aX _ _ (ret (.ref e)) _ _ s;exact aO {_,rfl,"enumerate",_,ty,F.slot_enumerate_next.lookup,h}
end
section
variable{X:Cx}{elts:List cU}{x1:Nat}{tpos pos p:Pos}
def LB(K:af)(tl:TA):TI:=fun σ H R=>tl σ H fun vs H1=>∃a,vs=[.ref a]/\(∃xs,SqL K H1 a xs)/\R (Ite K a) H1
theorem J4{a:cU}{ta:TA}(D:Gl X "enumerate")(hm:X.mg "enumerate"=none)(ha:PA X [a] ta)(hs:cK [a] X.env=[(false,gf a X.env)]:=by rfl):PI X (.Tuple elts x1 tpos) (.Call (.Name "enumerate" p) [a] [] pos) (LB X.K ta):=by
 intro pins s σ H R I h;refine Call_ (uf I D hm boot_enumerate (j7 (thn (ha pos pins s σ H _ I h) fun us Y ⟨vs,H1,Z,r1,J⟩=>?_) hs rfl));obtain⟨l,e,⟨xs,hq⟩,q⟩:=J;subst e;obtain⟨u,rfl,ru⟩:=vals1 r1
 cases ru;obtain⟨V,rv,pl,g⟩:=Z.list hq;refine call_enumerate_list pl.isList fun h' e1 O e3 U=>?_;have W:Inv X pins σ H1 {Y with heap:=h'}:=Z.kept (t':=Y.toks) U;have ty:({Y with heap:=h'}:ao).TypeIs (.ref (Y.heap.objs.size+1)) "enumerate":={_,e1,rfl};refine xM ty F.slot_enumerate_iter (lN F.slot_enumerate_iter ty F.entry_enumerate_iter ?_ (F.args_enumerate_iter_1 _));show aX _ _ (ret (.ref (Y.heap.objs.size+1))) _ _ _;refine aO {_,rfl,"enumerate",_,ty,F.slot_enumerate_next.lookup,?_};refine{_,[_,_],_,_,H1,rfl,W,ES l _ Y.heap.objs.size (Nat.succ_ne_self _),{.none,e1,O},fun b hb=>?_,q}
 rcases ar.mp hb with z|z
 ·rw[z];exact Z.fpOk (gm _) (Z.hok.fresh (gm _))
 ·rw[aD.mp z];exact Z.fpOk (ax _) (Z.hok.fresh (ax _))
theorem ET{K:af}{a:aa}{xs:List V}{n:Nat}{g:TG}{tc:TT}{te:TE}{σ:St}{H:Hp}{Q:VK}(Y:Nat->List V->Hp->Prop)(h0:Y 0 [] H)(hl:∀i ys H,i<=xs.length->Y i ys H->SqL K H a xs/\ys.length<aB)
  (hs:∀i x t ys H,xs[i]?=some x->Y i ys H->H t=none->g (.ref t) (cI n none++σ) (upd H t (.tup [.int i,x])) fun Z H2=>Z.drop n=σ/\tc Z H2 fun b O=>if b=true then te Z O fun y I=>Y (i+1) (ys++[y]) I else Y (i+1) ys O)
  (hd:∀ys H,Y xs.length ys H->∀p,H p=none->Q (.ref p) (upd H p (.lst ys))) :
  ∃W:Nat->Nat->List V->Hp->Prop,(∃m,W 0 m [] H)/\∀i m ys H,W i m ys H->ys.length<aB/\(((Ite K a).stop i H/\∀p,H p=none->Q (.ref p) (upd H p (.lst ys))) \/
   ((Ite K a).go i H/\∃N:List V->Hp->Prop,(∀U H',N U H'->∃D,D<m/\W (i+1) D U H')/\∀x H',(Ite K a).yld i H x H'->g x (cI n none++σ) H' fun Z H2=>Z.drop n=σ/\tc Z H2 fun b O=>
    if b=true then te Z O fun y I=>N (ys++[y]) I else N ys O)):=by
 refine{fun i m ys H=>m=xs.length-i/\i<=xs.length/\Y i ys H,{xs.length,by simp,cm _,h0},?_};rintro i m ys H ⟨rfl,hi,p⟩;obtain⟨q,z⟩:=hl i ys H hi p;refine{z,?_}
 by_cases J:i<xs.length
 ·refine .inr {{xs,xs[i],q,by simp[J]},Y (i+1),fun U H' p'=>{xs.length-(i+1),by omega,rfl,J,p'},fun x H' y=>?_};obtain⟨t,v,rfl,ht,hv,rfl⟩:=y;exact hs i v t ys H (hv xs q) p ht
 ·have e:i=xs.length:=by omega
  subst e;exact .inl {{xs,q,ax _},hd ys H p}
end
section
variable{prog:aM}{w:bO}{A:cj}{E:ae->ao->Prop}{s:ao}
theorem xP{a:aa}{vs:List ae}{n:Nat}{b:Bool}{P:Fin->ao->Prop}(ho:s.heap.get? a=some (dW "list" vs.toArray n))(h2:vs.length<2)
  (h:P (.done (.ret .none)) {s with heap:=sortedHeap s.heap a vs vs.toArray}) :
  aX (bA prog w) A (ic.«list.sort» {[.ref a],[(jY "reverse",.bool b)]}) P E s:=by
 rw[list_sort_rev];have ha:a<s.heap.objs.size:=aP ho;refine ai (listItems_at ho rfl ?_);refine ai (vP ho rfl ?_);obtain⟨e1,Z⟩:∃e1,(s.heap.update a (dh fun _=>#[])).get? a=some (dW "list" #[] e1):={_,get?_update_seq ho (fun _=>#[])};refine ai (zV Z rfl ?_);refine ai (wpAny_newTuple ?_);refine ai (qC ?_);refine dU ?_;have W:(((s.heap.update a (dh fun _=>#[])).push (dW "tuple" vs.toArray 0)).push (dW "list" #[] 0)).get? a=some (dW "list" #[] e1):=by
  rw[gp _ _ _ (by rw[wV,gH];exact aQ (iL ha)),gp _ _ _ (by rw[gH];exact aQ ha)];exact Z
 have one:((if b=true then (if b=true then (vs.toArray.zip vs.toArray).reverse else vs.toArray.zip vs.toArray).map (·.2) |>.reverse else (if b=true then (vs.toArray.zip vs.toArray).reverse else vs.toArray.zip vs.toArray).map (·.2)):Array ae)=vs.toArray:=by
  match vs,h2 with
  | [],_=>cases b<;>simp
  | [v],_=>cases b<;>simp
 show aX (bA prog w) A _ P E {s with heap:=((s.heap.update a (dh fun _=>#[])).push (dW "tuple" vs.toArray 0)).push (dW "list" #[] 0)};dsimp only;have step:∀t:Sem Fin,aX (bA prog w) A t P E {s with heap:=((s.heap.update a (dh fun _=>#[])).push (dW "tuple" vs.toArray 0)).push (dW "list" #[] 0)} ->
   aX (bA prog w) A (if b=true then (do let _ <- Jz "list.sort.reverse";t) else t) P E {s with heap:=((s.heap.update a (dh fun _=>#[])).push (dW "tuple" vs.toArray 0)).push (dW "list" #[] 0)}:=by
  intro t ht
  split
  ·exact ai (BD ht)
  ·exact ht
 refine step _ ?_;have V:vs.toArray.size<2:=by simpa using h2
 rw[if_pos V,if_pos V];refine ai (aO ?_);rw[StateT.run_pure];refine ai (aO ?_);dsimp only;refine ai (zV W rfl ?_);have Y:(if b=true then (Array.map (fun x=>x.snd) (arrOf (O4 general' (if b=true then (vs.toArray.zip vs.toArray).reverse else vs.toArray.zip vs.toArray) #[] 7 none))).reverse else Array.map (fun x=>x.snd) (arrOf (O4 general' (if b=true then (vs.toArray.zip vs.toArray).reverse else vs.toArray.zip vs.toArray) #[] 7 none)))=vs.toArray:=one;rw[Y];refine ai (vP W rfl ?_ (hsz2:=by rw[mw];omega));simp only[bne_self_eq_false,ue,if_false];exact aO h
theorem BM{l:aa}{vs:List ae}{b:Bool}{Q:ae->ao->Prop}(hl:s.heap.IsList l vs.toArray)(h2:vs.length<2)
  (h:Q (.ref (s.heap.objs.size+1)) {s with heap:=Fx s.heap vs vs.toArray}) :
  aX (bA prog w) A (xw (.builtin "sorted") [.ref l] [(jY "reverse",.bool b)]) Q E s:=by
 refine Hf J6 Hg Hh (args_sorted_rev _ _) ?_;unfold ic.«sorted»;refine ai (m:=NF "sorted" 1 1 _) (aO ?_);refine ai (collect_list hl ?_);refine ai (qC ?_);have hsz:((s.heap.push (dW "list" #[] 0)).update s.heap.objs.size (dh (·++vs.toArray))).objs.size=s.heap.objs.size+1:=by
  rw[gH,wV]
 have Z:(((s.heap.push (dW "list" #[] 0)).update s.heap.objs.size (dh (·++vs.toArray))).push (dW "list" vs.toArray 0)).get? (s.heap.objs.size+1)=some (dW "list" vs.toArray 0):=by
  rw[<- hsz];exact cz _ rfl
 show aX _ _ _ _ _ {s with heap:=((s.heap.push (dW "list" #[] 0)).update s.heap.objs.size (dh (·++vs.toArray))).push (dW "list" vs.toArray 0)};rw[hsz];refine ai (dU (LC BN {_,Z,rfl} As (xP Z h2 {_,rfl,?_}) (NG _ _)));exact aO {_,rfl,h}
end
section
variable{X:Cx}{e:cU}{t:TA}{p pos kp bp:Pos}{j:Nat}
end
section
variable{X:Cx}
def tTryE(T:aa->St->Hp->Prop)(tb:TS)(th:TH)(te:TS):TS:=fun D σ H=>tb {D with nx:=te D} σ H/\∀C Z H',Z.length=σ.length->T C Z H'->th C D Z H'
theorem Ka{V Y:List cX}{h₀:mh}{hs:List mh}{pos:Pos}{tb te:TS}{th:TH}(T:aa->St->Hp->Prop)(hb:∀pins,PSs (X.tr pins T) V tb)(hh:PHs X (h₀::hs) th)(ho:PSs X Y te)
  (hst:X.stack=X.env::X.outer:=by rfl) (g:X.env.frame=some X.env.locals:=by rfl):PS X (.Try V (h₀::hs) Y [] pos) (tTryE T tb th te):=by
 intro pins s σ H D I h;obtain⟨h1,h2⟩:=h;refine wpAny_Try_except (eK (hb pins [] s σ H {D with nx:=te D} (I.tr T) h1) (fun f O q=>?_) (fun e O q=>?_))
 ·cases f with
  |next=>obtain⟨Z,H',J,q⟩:=q;exact ho pins O Z H' D J.untr q
  |ret v=>obtain⟨v,Z,H',J,r,q⟩:=q;exact⟨v,Z,H',J.untr,r,q⟩
  |brk=>obtain⟨Z,H',J,q⟩:=q;exact⟨Z,H',J.untr,q⟩
  |cont=>obtain⟨Z,H',J,q⟩:=q;exact⟨Z,H',J.untr,q⟩
 ·obtain⟨ea,C,B,Z,H',rfl,J,fl,U,t⟩:=q;have z:FlD B (X.env::X.outer) ea (.ref C) .none O.heap:=by
   rw[<- hst];exact fl
  refine y9 (by rw[J.ok.frames,hst]) g z fun h4 x4 s4=>?_;refine qy x4 fun h5 W s5=>?_;have J5:=J.landed W.1 U (s4.trans s5);rw[<- hst]at W;exact hh pins _ Z H' D ea C B J5 W (xI.land J W.1 U) (h2 C Z H' (by rw[J.len,I.len]) t)
end
abbrev Au(A:cj):cj:={A with handled:=none}
structure qD(P:aM)(w:bO)(K:af)(mg:Str->Option ae)(base:cC)(CX:CXT)(k:Nat)(f:aa)(fd:bX)(ps:List Str)(sp:Sp):Prop where
 len:∀vs H Q E,sp vs H Q E->vs.length=ps.length
 run:∀(A:cj) (outer:List Env) (s:ao) (H:Hp) (args:Args) (us:List ae) (vs:List V) (Q:VK) (E:XK),cZ k (Au A)->yR P w K mg base A outer s H->uV s fd args (ps.zip us)->c9 vs us->sp vs H Q E ->
  oh (bA P w) A (.call (.ref f) args) (CR CX outer P w H s Q E) s
theorem NH{CX:CXT}{P:aM}{w:bO}{K:af}{mg:Str->Option ae}{base:cC}{k:Nat}{f:aa}{name W:Str}{O:Arguments}{g:List cX}{Z:mi}{dV kV bG pm U ct oc:ae}{an od:Option aa}
  {bB:Array (Option ae)} {N ps:List Str} {sp:Sp} (lk:K.lookup f=some {oc,od,.func (fq name W O g Z dV kV bG pm an U ct),bB}) (bv:jE K U W=true) (S:bN N ps Z)
  (len:∀vs H Q E,sp vs H Q E->vs.length=ps.length)
  (bH:∀(A:cj) (outer:List Env) (s:ao) (H:Hp) (vs:List V) (Q:VK) (E:XK),sp vs H Q E ->
   ∃t,PSs {uq CX P w K mg base N W Z f U A outer s H E with calm:=false} g t/\t {nx:=fun _ H'=>Q .non H',rt:=Q} (start N vs) H) :
  qD P w K mg base CX (k+1) f (fq name W O g Z dV kV bG pm an U ct) ps sp:=by
 refine{len,fun A outer s H args us vs Q E hr D hb r bF=>?_};have hl:=len _ _ _ _ bF;have KX:K.In s.heap:=D.mod.kin.keeps fun b o e=>(D.bs b o e).1;have bz:s.heap.NoLimit:=D.mod.nolimit.keeps fun b o e=>(D.bs b o e).1;have bI:∀y∈ps.zip us,Z.names.lookup y.1=some .local\/(Z.names.lookup y.1=some .cell/\((Fl (s.heap.objs.size+1) Z.names []).lookup y.1).isSome=true):=fun⟨n,v⟩ hy=>by
  rcases S.par n (qj hy).1 with q|q
  ·exact .inl q
  ·exact .inr {q,oZ _ _ _ (.inl q)}
 refine Jk (A:=A) hr.depth (KX _ _ lk) rfl S.co S.gen rfl (Bp KX bv) (hb _ _ _ _ ?_);refine Bq S.kind bI fun env he s1 x=>?_;subst he;refine{bz.keeps x.toInCall.keep,codeAny_func ?_};obtain⟨t,ht,hq⟩:=bH A outer s H vs Q E bF;have e1:yR P w K mg base (Au A) outer s H:=⟨D.frames,D.mod,D.bs,D.bsz,D.funs,D.frf,D.hok,D.bare⟩;have Y:Inv (uq CX P w K mg base N W Z f U (Au A) outer s H E) [] (start N vs) H s1:=x8 S rfl e1 hl r x;have I:Inv {uq CX P w K mg base N W Z f U A outer s H E with calm:=false} [] (start N vs) H s1:=
  {{Y.ok.mod,Y.ok.kind,Y.ok.glob,Y.ok.blt,Y.ok.above,Y.ok.inj,Y.ok.has,Y.ok.cab,fun z=>vH z,Y.ok.frames,Y.ok.stk,Y.ok.exf,Y.ok.bs,Y.ok.bsz,Y.ok.noex,Y.ok.exfs,Y.ok.funs,Y.ok.frf},Y.os,Y.bare,Y.base,Y.loc,Y.cell,Y.free,Y.freeC,Y.pin,Y.hok,Y.len}
 refine eK (ht [] s1 (start N vs) H _ I hq) (fun fl s' hs=>?_) fun e s' hs=>hs;have fin:∀{bW:St} {H':Hp} {v:V} {u:ae},Inv {uq CX P w K mg base N W Z f U A outer s H E with calm:=false} [] bW H' s'->RelV v u->Q v H'->CE outer P w H s Q u s':=
  fun {bW H' v u} J rv q=>⟨v,H',J.os,J.bare,J.base,J.hok,rv,q⟩
 cases fl with
 |ret u=>
  obtain⟨v,bW,H',J,rv,q⟩:=hs;exact fin J rv q
 |next=>
  obtain⟨bW,H',J,q⟩:=hs;exact fin (v:=V.non) (u:=Value.none) J rfl q
 |brk=>
  obtain⟨_,_,_,q⟩:=hs;exact cY q
 |cont=>
  obtain⟨_,_,_,q⟩:=hs;exact cY q
theorem Fun.okH{P:aM}{w:bO}{K:af}{mg:Str->Option ae}{base:cC}{x Z:Str}{st:cX}{f:aa}{fd:bX}{N ps:List Str}{k:Nat}{sp:Sp}(F:Fun K x Z st f fd)(S:bN N ps (aL st))(len:∀vs H Q E,sp vs H Q E->vs.length=ps.length)
  (Y:∀(W:ae) (A:cj) (outer:List Env) (s:ao) (H:Hp) (vs:List V) (Q:VK) (E:XK),sp vs H Q E ->
   ∃t,PSs {uq CX0 P w K mg base N Z (aL st) f W A outer s H E with calm:=false} (jf st) t/\t {nx:=fun _ H'=>Q .non H',rt:=Q} (start N vs) H):qD P w K mg base CX0 (k+1) f fd ps sp:=by
 obtain⟨oc,od,kV,D,z,g,W,ct,J,rfl,I,U⟩:=F.ex;exact NH I U S len fun A outer s H vs Q E O=>Y W A outer s H vs Q E O
theorem Kc{X:Cx}{CX:CXT}{k:Nat}{f:aa}{fd:bX}{ps:List Str}{sp:Sp}{E:XK}{pins:List (aa×Obj)}{σ:St}{H:Hp}{s:ao}{Q:VK}{us:List ae}{vs:List V}(F:qD X.prog X.w X.K X.mg X.base CX k f fd ps sp)(hr:cZ k (Au X.A))(hb:Binds X.K fd ps [])(hx:lH CX X E)
  (I:Inv X pins σ H s) (r:c9 vs us) (h:sp vs H Q E):aX (bA X.prog X.w) X.A (xw (.ref f) us) (EP X pins σ Q) X.xe s:=by
 have hl:(us++[]).length=ps.length:=by rw[cL,<- r.length];exact F.len _ _ _ _ h
 have Z:=hb s us I.kIn hl;rw[cL]at Z;refine sI (oj (F.run X.A X.stack s H {us,[]} us vs Q E hr I.env0 Z r h) fun r s' hq=>?_)
 cases r with
 |error e=>exact hx pins σ H s e s' I hq
 |ok fl=>
  cases fl with
  |ret u=>exact I.after hq
  |next=>exact cY hq
  |brk=>exact cY hq
  |cont=>exact cY hq
section
variable{X:Cx}{CX:CXT}{k:Nat}{ι:Type}{fm C:ι->aa}{fd:ι->bX}{ps:List Str}{sp:ι->Sp}{E:XK}{m:Str}{pos apos:Pos}{o:cU}{ta:TE}
def Kd(C:ι->aa)(sp:ι->Sp)(E:XK)(ta:TE):TE:=fun σ H Q=>ta σ H fun x H1=>∃a i,x=.ref a/\H1 a=some (XO a (C i))/\sp i [.ref a] H1 Q E
theorem EU{pl:Sem Bool}(U:PE X o ta)(c:∀i,lQ X.K (C i))(hm:∀i,yQ X.K (C i) m (fm i))(F:∀i,qD X.prog X.w X.K X.mg X.base CX k (fm i) (fd i) ps (sp i))(hr:cZ k (Au X.A))(hb:∀i,Binds X.K (fd i) ps [])(hx:lH CX X E)
  (ht:gf (.Call (.Attribute o m apos) [] [] pos) X.env=(do
   let Y <- gf o X.env
   xu apos.atName
   let (f,first) <- rZ [Y] (oU Y m pl)
   Bi pos f first (jj pos (cK [] X.env)) (oY pos (jm [] X.env))):=by rfl) :
  PE X (.Call (.Attribute o m apos) [] [] pos) (Kd C sp E ta):=by
 intro pins s σ H Q I h;refine jU (pl:=pl) (thn (U pins s σ H _ I h) fun u O ⟨x,H1,Z,W,a,i,ex,V,q⟩=>?_) ht;subst ex;obtain rfl:u=Value.ref a:=W;obtain⟨ox,J⟩:=(BL Z.hok V).inst;refine Ha Z.kIn J (c i) (hm i).at_ (beq_iff_eq.mp (hm i).fn) ?_;exact A3 (first:=[.ref a]) Z.kIn (hm i).kp (Kc (us:=[.ref a]) (vs:=[.ref a]) (F i) hr (hb i) hx Z (.cons rfl .nil) q)
end
end L2
namespace HT
open PySem PyProof.Rows
open PySem.SeqAt
open PySem.AutoSeq1 (wpAny_loadPart')
open PySem.MeetsSeq PySem.MeetsSeq2 PySem.MeetsSeq3
def NI(A:cj)(s:ao)(x y:ae)(g:Bool):Prop:=∀(prog:aM) (w:bO) (E:ae->ao->Prop) (Q:ae->ao->Prop),Q (.bool g) s->aX (bA prog w) A (p8 .Gt x y) Q E s
theorem Ke(l b:aa)(x y:ae)(xs ys:List ae)(n m:Nat)(dd H:Option aa)(sl sm:Array (Option ae))(g:Bool) :
  Meets (ic.«tuple.__gt__» {[.ref l,.ref b],[]})
   (fun A R s=>s.heap.get? l=some {cls:=.type "tuple",dict:=dd,data:=.seq (x::xs).toArray n,slots:=sl}/\s.heap.get? b=some {cls:=.type "tuple",dict:=H,data:=.seq (y::ys).toArray m,slots:=sm}/\EqAt A.in1 s x y false/\NI A.in1 s x y g/\R (.ok (.ret (.bool g))) s):=
 .of_wp fun prog w A R s h=>by
  obtain⟨hp,gg,d,tk,os⟩:=s;obtain⟨hl,hb,I,J,h⟩:=h;have f2:=i5
  wp_walk using dy hl,dy hb,lL _ (fun rest b s'=>b.1=none/\s'=⟨hp,gg,d,tk,os⟩/\∃Z,rest=(x,y)::Z) _
  case turn=>
   rintro⟨y',z⟩ rest b s' ⟨V,rfl,Z,U⟩;injection U with W Y;injection W with hy hx;subst hy hx;refine ai (I prog w _ _ ?_);have O:∀(E:ae->ao->Prop) (Q:ae->ao->Prop),Q (.bool g) ⟨hp,gg,d,tk,os⟩->aX (bA prog w) A.in1 (p8 .Gt _ _) Q E ⟨hp,gg,d,tk,os⟩:=fun E Q q=>J prog w E Q q
   wp_walk using O
   exact{_,rfl,by simpa using h}
  case fin=>
   rintro⟨b1,D⟩ s' ⟨V,rfl,Z,U⟩
   cases U
  case h=>
   exact{rfl,rfl,xs.zip ys,by simp}
theorem gtAt_heads{A:cj}{s:ao}{l b:aa}{x y:ae}{xs ys:List ae}{g:Bool}(hl:rJ s.heap l (x::xs).toArray)(hb:rJ s.heap b (y::ys).toArray)(hu:A.units<eN)(V:EqAt A.in1 s x y false)(W:NI A.in1 s x y g):NI A s (.ref l) (.ref b) g:=fun prog w E Q h=>by
 obtain⟨⟨c1,dd,t1,sl⟩,Y,rfl,n,rfl⟩:=id hl;obtain⟨⟨O,U,J,sm⟩,Z,rfl,m,rfl⟩:=id hb;exact kP (op:=.Gt) {_,Y,rfl} {_,Z,rfl} zU zf (yg _ _) (Ke l b x y xs ys n m dd U sl sm g)
  {Y,Z,V,W,show Value.bool g≠Value.notImplemented/\Q (.bool g) s from{(fun x=>nomatch x),h}} hu
end HT
namespace L2
open PySem PySem.Spec PyProof.Rows
section
variable{X:Cx}
def rGtH:R2:=fun x y H Q=>∃a b Z kb ns ms W Y,x=.ref a/\y=.ref b/\H a=some (.tup (.ref Z::W))/\H b=some (.tup (.ref kb::Y))/\H Z=some (.tup (ns.map V.int))/\H kb=some (.tup (ms.map V.int))/\ns≠ms/\Q (.bl (HT.lexLt ms ns)) H
theorem NJ(hu:X.A.units+1<eN):OpR X (c5 .Gt) rGtH:=by
 intro pins s σ H x y v u Q I J U h;obtain⟨a,b,ka,kb,ns,ms,ra,rb,rfl,rfl,ha,hb,Z,W,ne,q⟩:=h
 cases J
 cases U;obtain⟨O,r1,p1,_⟩:=I.tuple (SqT.of ha);obtain⟨V,r2,p2,_⟩:=I.tuple (SqT.of hb);obtain⟨k1,z,q1,_⟩:=I.tuple (SqT.of Z);obtain⟨k2,s2,g,_⟩:=I.tuple (SqT.of W);have i1:dQ k1.toArray.toList ns:=intsAre_of z;have i2:dQ k2.toArray.toList ms:=intsAre_of s2;have Y:X.A.in1.units<eN:=hu;have e:=yh (A:=X.A.in1) I.hok Y Z W;rw[decide_eq_false ne]at e
 cases r1 with
 |cons w1 r1=>
  cases r2 with
  |cons D r2=>
   cases w1
   cases D;exact HT.gtAt_heads p1 p2 (by omega) e (fun prog w E Q h=>HT.gt_tup q1 g i1 i2 Y h) _ _ _ _ {.bl (HT.lexLt ms ns),H,I,rfl,q}
end
end L2
namespace L2
open PySem PySem.W PyProof.Rows HT
def iP(a b:List Int):Prop:=lexLt b a=false
theorem iP.refl(a:List Int):iP a a:=BG a
theorem iP.trans{a b c:List Int}(h1:iP a b)(h2:iP b c):iP a c:=by
 unfold iP at *
 cases e:lexLt c a with
 |false=>rfl
 |true=>
  cases f:lexLt a b with
  |true=>
   rw[lx_trans e f]at h2
   cases h2
  |false=>
   rw[tH f h1]at e;rw[e]at h2
   cases h2
theorem iP.of_lt{a b:List Int}(h:lexLt a b=true):iP a b:=lx_asym h
theorem Hi{a b c:List Int}(h:lexLt a b=true)(h2:iP b c):lexLt a c=true:=by
 cases e:lexLt a c with
 |true=>rfl
 |false=>
  have z:iP c a:=e;have y:=h2.trans z;unfold iP at y;rw[h]at y
  cases y
theorem iP.anti{a b:List Int}(h1:iP a b)(h2:iP b a):a=b:=tH h2 h1
def KR{Z:Type}(r:Nat->List Int)(n:Nat):KasT Z->(Z->Prop)->Prop
 |.ret a,Q=>Q a
 |.ask i j k,Q=>(i<n/\j<n/\i≠j)/\KR r n (k (lexLt (r i) (r j))) Q
section
variable{r:Nat->List Int}{n:Nat}
theorem KR.bind{Y Z:Type}{f:Y->KasT Z}{Q:Z->Prop}:∀{t:KasT Y},KR r n t (fun a=>KR r n (f a) Q)->KR r n (t.bind f) Q
 |.ret _,h=>h
 |.ask _ _ k,⟨h1,W⟩=>{h1,KR.bind W}
theorem KR.sound{Y:Type}{Z:Nat->Nat->(Bool->ao->Prop)->ao->Prop}{s:ao}{Q:Y->Prop}(hc:∀i j (C:Bool->ao->Prop),i<n->j<n->i≠j->C (lexLt (r i) (r j)) s->Z i j C s):∀{t:KasT Y},KR r n t Q->t.kasWp Z (fun a s'=>s'=s/\Q a) s
 |.ret _,h=>⟨rfl,h⟩
 |.ask i j k,⟨⟨h1,h2,V⟩,W⟩=>hc i j _ h1 h2 V (KR.sound hc W)
theorem Kg{Z:Type}{a b:KasT Z}{Q:Z->Prop}(h:KR r n a Q):KR r n (if true=true then a else b) Q:=by
 rw[if_pos rfl];exact h
theorem Kh{Z:Type}{a b:KasT Z}{Q:Z->Prop}(h:KR r n b Q):KR r n (if false=true then a else b) Q:=by
 rw[if_neg (by simp)];exact h
def Rk(r:Nat->List Int)(p:Array Nat)(i:Nat):List Int:=r (p.getD i 0)
def Pm(n:Nat)(p:Array Nat):Prop:=p.Perm (kL n).toArray
theorem Pm.size{p:Array Nat}(h:Pm n p):p.size=n:=by
 have:=h.size_eq;simpa using this
theorem Pm.lt{p:Array Nat}(h:Pm n p){i:Nat}(hi:i<n):p.getD i 0<n:=by
 have hs:i<p.size:=by rw[h.size];exact hi
 have e:p.getD i 0=p[i]:=by simp[p0,hs]
 rw[e];have m:p[i]∈p.toList:=by simp
 have z:=(iQ.mp h).mem_iff.mp m;simpa using z
theorem Pm.two{p:Array Nat}(h:Pm n p){i j:Nat}(hi:i<n)(Z:j<n)(ne:i≠j):p.getD i 0<n/\p.getD j 0<n/\p.getD i 0≠p.getD j 0:=by
 refine{h.lt hi,h.lt Z,?_};have nd:p.toList.Nodup:=(iQ.mp h).nodup_iff.mpr (by simpa using List.nodup_range);have h1:i<p.size:=by rw[h.size];exact hi
 have h2:j<p.size:=by rw[h.size];exact Z
 have e1:p.getD i 0=p.toList[i]'(by simpa using h1):=by simp[p0,h1]
 have Y:p.getD j 0=p.toList[j]'(by simpa using h2):=by simp[p0,h2]
 rw[e1,Y];intro z
 rcases Hj ne with c|c
 ·exact dD.mp nd i j _ _ c z
 ·exact dD.mp nd j i _ _ c z.symm
theorem sL(p:Array Nat)(i:Nat):p.getD i 0=(p[i]?).getD 0:=by
 by_cases h:i<p.size
 ·simp[p0,h]
 ·simp[p0,h]
theorem Pm.rev{p:Array Nat}(h:Pm n p)(i j:Nat):Pm n (O5 p i j):=(mirror_perm _ _ _ _).trans h
theorem Pm.bub{p:Array Nat}(h:Pm n p)(i j:Nat):Pm n (bubble p i j):=(bubble_perm _ _ _).trans h
theorem BO{p:Array Nat}{i j:Nat}(Z:j<=p.size)(k:Nat):Rk r (O5 p i j) k=if i<=k/\k<j then Rk r p (i+j-1-k) else Rk r p k:=by
 unfold Rk O5;rw[sL,getElem?_mirror_all Z,sL,sL]
 split<;>rfl
theorem Hk{p:Array Nat}{Z d:Nat}(hs:Z<p.size)(hd:d<=Z)(k:Nat):Rk r (bubble p Z d) k=if k=Z-d then Rk r p Z else if Z-d<k/\k<=Z then Rk r p (k-1) else Rk r p k:=by
 unfold Rk;rw[sL,getElem?_bubble hs d hd,sL,sL,sL]
 repeat' split
 all_goals rfl
theorem uB{p:Array Nat}{i j:Nat}(Y:j<=p.size)(Z:∀k,i<=k->k<j->Rk r p k=Rk r p (j-1))(k:Nat):Rk r (O5 p i j) k=Rk r p k:=by
 rw[BO Y]
 split
 ·rw[Z k (by omega) (by omega),Z _ (by omega) (by omega)]
 ·rfl
def Srt(r:Nat->List Int)(p:Array Nat)(m:Nat):Prop:=∀i j,i<=j->j<m->iP (Rk r p i) (Rk r p j)
def Fal(r:Nat->List Int)(p:Array Nat)(m:Nat):Prop:=∀i j,i<=j->j<m->iP (Rk r p j) (Rk r p i)
theorem Srt.one(p:Array Nat):Srt r p 1:=fun i j h1 h2=>by
 have:i=j:=by omega
 subst this;exact iP.refl _
theorem Srt.up{p:Array Nat}{x:Nat}(h1:1<=x)(h:Srt r p x)(l:iP (Rk r p (x-1)) (Rk r p x)):Srt r p (x+1):=fun i j Z Y=>by
 by_cases c:j<x
 ·exact h i j Z c
 ·have:j=x:=by omega
  subst this
  by_cases d:i=j
  ·subst d;exact iP.refl _
  ·exact (h i (j-1) (by omega) (by omega)).trans l
theorem Fal.up{p:Array Nat}{x:Nat}(h1:1<=x)(h:Fal r p x)(l:iP (Rk r p x) (Rk r p (x-1))):Fal r p (x+1):=fun i j Z Y=>by
 by_cases c:j<x
 ·exact h i j Z c
 ·have:j=x:=by omega
  subst this
  by_cases d:i=j
  ·subst d;exact iP.refl _
  ·exact l.trans (h i (j-1) (by omega) (by omega))
theorem Fal.eq{p Z:Array Nat}{m:Nat}(e:∀k,Rk r Z k=Rk r p k)(h:Fal r p m):Fal r Z m:=fun i j a b=>by
 rw[e,e];exact h i j a b
theorem BP{p:Array Nat}(hp:Pm n p){N:Nat}(Y:N<=n){Q:Nat->Prop}(h:∀q,1<=q->q<=N->Srt r p q->(q=N\/lexLt (Rk r p q) (Rk r p (q-1))=true)->Q q):∀(f m:Nat),1<=m->m+f=N->Srt r p m->KR r n (kas_asc p f m) Q
 |0,m,h1,Z,hs=>h m h1 (by omega) hs (.inl (by omega))
 |f+1,m,h1,Z,hs=>by
  refine{hp.two (by omega) (by omega) (by omega),?_}
  cases e:lexLt (r (p.getD m 0)) (r (p.getD (m-1) 0)) with
  |true=>exact h m h1 (by omega) hs (.inr e)
  |false=>exact BP hp Y h f (m+1) (by omega) (by omega) (hs.up h1 e)
theorem vQ{N:Nat}(Y:N<=n){Q:Array Nat×Nat×Nat->Prop}{m0:Nat}(h:∀p m q,Pm n p->m0<=m->m<=N->Fal r p m->q+1<=m->(∀i,m-(q+1)<=i->i<m->Rk r p i=Rk r p (m-1))->Q (p,m,q)) :
  ∀(f:Nat) (p:Array Nat) (m q:Nat),Pm n p->1<=m->m0<=m->m+f=N->Fal r p m->q+1<=m->(∀i,m-(q+1)<=i->i<m->Rk r p i=Rk r p (m-1))->KR r n (kas_desc f p m q) Q
 |0,p,m,q,hp,h1,h0,W,hs,hq,Z=>h p m q hp h0 (by omega) hs hq Z
 |f+1,p,m,q,hp,h1,h0,W,hs,hq,Z=>by
  refine{hp.two (by omega) (by omega) (by omega),?_};have hsz:m<=p.size:=by rw[hp.size];omega
  cases e:lexLt (r (p.getD m 0)) (r (p.getD (m-1) 0)) with
  |true=>
   refine Kg ?_;have up:=hs.up h1 (iP.of_lt e)
   by_cases c:q>0
   ·rw[if_pos c];exact vQ Y h f _ (m+1) 0 (hp.rev _ _) (by omega) (by omega) (by omega) (up.eq (uB hsz Z)) (by omega) (fun i a b=>by congr 1;omega)
   ·rw[if_neg c];exact vQ Y h f p (m+1) 0 hp (by omega) (by omega) (by omega) up (by omega) (fun i a b=>by congr 1;omega)
  |false=>
   refine Kh ?_;refine{hp.two (by omega) (by omega) (by omega),?_}
   cases d:lexLt (r (p.getD (m-1) 0)) (r (p.getD m 0)) with
   |true=>
    refine Kg ?_;exact h p m q hp h0 (by omega) hs hq Z
   |false=>
    refine Kh ?_;have eq:Rk r p m=Rk r p (m-1):=tH e d;refine vQ Y h f p (m+1) (q+1) hp (by omega) (by omega) (by omega) (hs.up h1 (by rw[eq];exact iP.refl _)) (by omega) (fun i a b=>?_);rw[show m+1-1=m by omega]
    by_cases c:i=m
    ·subst c;rfl
    ·rw[eq];exact Z i (by omega) (by omega)
theorem Av{N:Nat}(Y:N<=n){Q:Nat×Array Nat->Prop}(h:∀m p,Pm n p->1<=m->m<=N->Srt r p m->Q (m,p)){p:Array Nat}{m:Nat}(hp:Pm n p)(h1:1<=m)(hm:m<=N)(hs:Fal r p m):KR r n (kas_tail3 m N p) Q:=by
 unfold kas_tail3;have hsz:m<=p.size:=by rw[hp.size];omega
 refine KR.bind (BP (hp.rev 0 m) Y (fun q a b c _=>?_) (N-m) m h1 (by omega) fun i j Z W=>?_)
 ·exact h q _ (hp.rev 0 m) a b c
 ·rw[BO hsz,BO hsz,if_pos (by omega),if_pos (by omega)];exact hs _ _ (by omega) (by omega)
theorem ve{N:Nat}(W:N<=n){Q:Nat×Array Nat->Prop}(h:∀m p,Pm n p->1<=m->m<=N->Srt r p m->Q (m,p)){p:Array Nat}{m:Nat}(hp:Pm n p)(hm:m+1<=N)(hs:Fal r p (m+1)):KR r n (kas_descPart m N p) Q:=by
 unfold kas_descPart;refine KR.bind (vQ (m0:=m+1) W (fun V O q Z a b Y hq U=>?_) (N-(m+1)) p (m+1) 0 hp (by omega) (ax _) (by omega) hs (by omega) (fun i a b=>by congr 1;omega));dsimp only;have hsz:O<=V.size:=by rw[Z.size];omega
 by_cases c:q>0
 ·rw[if_pos c];exact Av W h (Z.rev _ _) (by omega) b (Y.eq (uB hsz U))
 ·rw[if_neg c];exact Av W h Z (by omega) b Y
theorem Hl{Q:Nat×Array Nat->Prop}(h:∀m p,Pm n p->1<=m->m<=n->Srt r p m->Q (m,p)){p:Array Nat}(hp:Pm n p)(h1:1<=n):KR r n (kas_count n p) Q:=by
 unfold kas_count;refine KR.bind (BP hp (ax n) (fun m U V hs W=>?_) (n-1) 1 (ax _) (by omega) (Srt.one p))
 by_cases c:m=n
 ·rw[if_pos (by simpa using c)];exact h m p hp U V hs
 ·rw[if_neg (by simpa using c)];have Y:=W.resolve_left c
  by_cases g:m>1
  ·rw[if_pos g];refine{hp.two (by omega) (by omega) (by omega),?_}
   cases e:lexLt (r (p.getD 0 0)) (r (p.getD (m-1) 0)) with
   |true=>
    refine Kg ?_;exact h m p hp U V hs
   |false=>
    refine Kh ?_;have hsz:m<=p.size:=by rw[hp.size];omega
    have Z:∀k,0<=k->k<m->Rk r p k=Rk r p (m-1):=fun k _ hk=>by
     have a1:=hs 0 k (by omega) hk;have a2:=hs k (m-1) (by omega) (by omega);exact a2.anti (iP.trans (show iP (Rk r p (m-1)) (Rk r p 0) from e) a1)
    refine ve (ax n) h (hp.rev _ _) (by omega) (Fal.eq (uB hsz Z) ?_);refine Fal.up (by omega) (fun i j J O=>?_) (iP.of_lt Y);rw[Z i (by omega) (by omega),Z j (by omega) O];exact iP.refl _
  ·rw[if_neg g];have:m=1:=by omega
   subst this;exact ve (ax n) h hp (by omega) (Fal.up (ax _) (fun i j a b=>by
    have:i=j:=by omega
    subst this;exact iP.refl _) (iP.of_lt Y))
theorem wW{p:Array Nat}{k:Nat}(hp:Pm n p)(hk:k<n)(hs:Srt r p k){Q:Nat->Prop}(h:∀l,l<=k->(∀i,i<l->iP (Rk r p i) (Rk r p k))->(∀i,l<=i->i<k->lexLt (Rk r p k) (Rk r p i)=true)->Q l) :
  ∀(f l q:Nat),l<=q->q<=k->q-l<=f->(∀i,i<l->iP (Rk r p i) (Rk r p k))->(∀i,q<=i->i<k->lexLt (Rk r p k) (Rk r p i)=true)->KR r n (kas_place p k f l q) Q
 |0,l,q,a,b,c,lo,hi=>by
  have:l=q:=by omega
  subst this;exact h l b lo hi
 |f+1,l,q,a,b,c,lo,hi=>by
  unfold kas_place
  by_cases d:l≥q
  ·rw[if_pos d];have:l=q:=by omega
   subst this;exact h l b lo hi
  ·rw[if_neg d];refine{hp.two hk (by omega) (by omega),?_}
   cases e:lexLt (r (p.getD k 0)) (r (p.getD ((l+q)/2) 0)) with
   |true=>
    refine Kg ?_;exact wW hp hk hs h f l _ (by omega) (by omega) (by omega) lo fun i h1 h2=>Hi e (hs _ _ h1 h2)
   |false=>
    refine Kh ?_;exact wW hp hk hs h f _ q (by omega) (by omega) (by omega) (fun i h1=>(hs i ((l+q)/2) (by omega) (by omega)).trans e) hi
theorem Hm{Q:Array Nat->Prop}(h:∀p,Pm n p->Srt r p n->Q p):∀(f:Nat) (p:Array Nat) (k:Nat),Pm n p->k+f=n->Srt r p k->KR r n (kas_bin f p k) Q
 |0,p,k,hp,Y,hs=>h p hp (by rw[<- Y];exact hs)
 |f+1,p,k,hp,Y,hs=>by
  unfold kas_bin;refine KR.bind (wW hp (by omega) hs (fun l hl lo hi=>?_) k 0 k (cm _) (ax _) (by omega) (fun i h=>absurd h (by omega)) (fun i a b=>absurd b (by omega)));refine Hm h f _ (k+1) (hp.bub _ _) (by omega) fun i j W V=>?_;have Z:k<p.size:=by rw[hp.size];omega
  rw[Hk Z (by omega),Hk Z (by omega),show k-(k-l)=l by omega]
  repeat' split
  all_goals first
   |(exfalso;omega)
   |exact iP.refl _
   |exact lo _ (by omega)
   |exact iP.of_lt (hi _ (by omega) (by omega))
   |exact hs _ _ (by omega) (by omega)
theorem Ki(h1:1<=n):KR r n (kas_sort n) (fun p=>Pm n p/\Srt r p n):=by
 unfold kas_sort;refine KR.bind (Hl (fun m p hp Y Z hs=>?_) (Array.Perm.refl _) h1);dsimp only
 by_cases c:m<n
 ·rw[if_pos c];refine Hm (fun p hp hs=>⟨hp,hs⟩) _ p (max m 1) hp (by omega) ?_;rw[show max m 1=m by omega];exact hs
 ·rw[if_neg c];have:m=n:=by omega
  subst this;exact⟨hp,hs⟩
end
end L2
namespace L2
open PySem PySem.W PySem.Spec PyProof.Rows HT
section
variable{prog:aM}{w:bO}{A:cj}{E:ae->ao->Prop}{s:ao}
theorem vz{h0:cC}{a:aa}{vs:List ae}{n:Nat}{b:Bool}{P:Fin->ao->Prop}{r:Nat->List Int}(ho:s.heap.get? a=some (dW "list" vs.toArray n))(k0:∀c o,h0.get? c=some o->s.heap.get? c=some o)(H:h0.get? a=none)(h2:2<=vs.length)(I:vs.length<64)
  (hk:∀h':cC,(∀c o,h0.get? c=some o->h'.get? c=some o)->∀Q:SortKind->ao->Prop,Q (A9 false) {s with heap:=h'}->aX (bA prog w) A (keyKind' vs.toArray) Q E {s with heap:=h'})
  (hc:∀h':cC,(∀c o,h0.get? c=some o->h'.get? c=some o)->∀i j (C:Bool->ao->Prop),i<vs.length->j<vs.length->i≠j->C (lexLt (r i) (r j)) {s with heap:=h'}->kas_ask prog w A (A9 false) (lR b vs) i j C {s with heap:=h'})
  (h:∀p,Pm vs.length p->Srt r p vs.length->P (.done (.ret .none)) {s with heap:=sortedHeap s.heap a vs (vg (lR b (p.toList.map fun i=>(lR b vs).getD i Value.none)))}) :
  aX (bA prog w) A (ic.«list.sort» ⟨[.ref a],[(jY "reverse",.bool b)]⟩) P E s:=by
 rw[list_sort_rev];have ha:a<s.heap.objs.size:=aP ho;refine ai (listItems_at ho rfl ?_);refine ai (vP ho rfl ?_);obtain⟨e1,V⟩:∃e1,(s.heap.update a (dh fun _=>#[])).get? a=some (dW "list" #[] e1):=⟨_,get?_update_seq ho (fun _=>#[])⟩;refine ai (zV V rfl ?_);refine ai (wpAny_newTuple ?_);refine ai (qC ?_);refine dU ?_;have U:(((s.heap.update a (dh fun _=>#[])).push (dW "tuple" vs.toArray 0)).push (dW "list" #[] 0)).get? a=some (dW "list" #[] e1):=by
  rw[gp _ _ _ (by rw[wV,gH];exact aQ (iL ha)),gp _ _ _ (by rw[gH];exact aQ ha)];exact V
 have Y:∀c o,h0.get? c=some o->(((s.heap.update a (dh fun _=>#[])).push (dW "tuple" vs.toArray 0)).push (dW "list" #[] 0)).get? c=some o:=fun c o e=>by
  have lt:c<s.heap.objs.size:=aP (k0 c o e);have ne:c≠a:=fun z=>by
   rw[z,H]at e
   cases e
  rw[gp _ _ _ (by rw[wV,gH];exact aQ (iL lt)),gp _ _ _ (by rw[gH];exact aQ lt),EV _ _ _ _ ne];exact k0 c o e
 show aX (bA prog w) A _ P E {s with heap:=((s.heap.update a (dh fun _=>#[])).push (dW "tuple" vs.toArray 0)).push (dW "list" #[] 0)};dsimp only;have step:∀t:Sem Fin,aX (bA prog w) A t P E {s with heap:=((s.heap.update a (dh fun _=>#[])).push (dW "tuple" vs.toArray 0)).push (dW "list" #[] 0)} ->
   aX (bA prog w) A (if b=true then (do let _ <- Jz "list.sort.reverse";t) else t) P E {s with heap:=((s.heap.update a (dh fun _=>#[])).push (dW "tuple" vs.toArray 0)).push (dW "list" #[] 0)}:=by
  intro t ht
  split
  ·exact ai (BD ht)
  ·exact ht
 refine step _ ?_;have J:¬vs.toArray.size<2:=by
  rw[aF];omega
 rw[if_neg J,if_neg J];refine ai (hk _ Y _ ?_);rw[kat_pairs b rfl];have el:=kat_len b vs;refine ai (eK (kat_run (ks:=lR b vs) (vs:=lR b vs) (κ:=A9 false) (Q:=fun Z s'=>∃p:Array Nat,arrOf Z=p.map (kas_item ((lR b vs).toArray.zip (lR b vs).toArray))/\failedOf Z=none/\s'={s with heap:=((s.heap.update a (dh fun _=>#[])).push (dW "tuple" vs.toArray 0)).push (dW "list" #[] 0)}/\Pm vs.length p/\Srt r p vs.length) (G:=fun p s'=>s'={s with heap:=((s.heap.update a (dh fun _=>#[])).push (dW "tuple" vs.toArray 0)).push (dW "list" #[] 0)}/\Pm vs.length p/\Srt r p vs.length) rfl (by rw[el];exact h2) (by rw[el];exact I) (fun p Z s' hp W g hg=>⟨p,W,g,hg⟩) (by
  rw[el];exact KR.sound (hc _ Y) (Ki (by omega)))) ?_ fun _ _ e=>e)
 rintro⟨⟨⟩,Z⟩ s' ⟨p,W,g,rfl,O,D⟩;dsimp only;have out:=kat_snds (ks:=lR b vs) (vs:=lR b vs) rfl W;refine ai (zV U rfl ?_);rw[out,kat_outs];have lp:(lR b (p.toList.map fun i=>(lR b vs).getD i Value.none)).length<64:=by
  rw[kat_len,au,fY,O.size];exact I
 refine ai (vP U rfl ?_ (hsz2:=by rw[aF,mw];omega));rw[g];simp only[bne_self_eq_false,ue,if_false];exact aO (h p O D)
theorem sorted_N{l:aa}{vs:List ae}{b:Bool}{Q:ae->ao->Prop}{r:Nat->List Int}(hl:s.heap.IsList l vs.toArray)(h2:2<=vs.length)(W:vs.length<64)
  (hk:∀(Z:cj) (E:ae->ao->Prop) (h':cC),Z.units<=A.units+2->(∀c o,s.heap.get? c=some o->h'.get? c=some o)->∀Q:SortKind->ao->Prop,Q (A9 false) {s with heap:=h'}->aX (bA prog w) Z (keyKind' vs.toArray) Q E {s with heap:=h'})
  (hc:∀(Z:cj) (h':cC),Z.units<=A.units+2->(∀c o,s.heap.get? c=some o->h'.get? c=some o)->∀i j (C:Bool->ao->Prop),i<vs.length->j<vs.length->i≠j->C (lexLt (r i) (r j)) {s with heap:=h'}->kas_ask prog w Z (A9 false) (lR b vs) i j C {s with heap:=h'})
  (h:∀p,Pm vs.length p->Srt r p vs.length->Q (.ref (s.heap.objs.size+1)) {s with heap:=Fx s.heap vs (vg (lR b (p.toList.map fun i=>(lR b vs).getD i Value.none)))}) :
  aX (bA prog w) A (xw (.builtin "sorted") [.ref l] [(jY "reverse",.bool b)]) Q E s:=by
 refine Hf J6 Hg Hh (args_sorted_rev _ _) ?_;unfold ic.«sorted»;refine ai (m:=NF "sorted" 1 1 _) (aO ?_);refine ai (collect_list hl ?_);refine ai (qC ?_);have hsz:((s.heap.push (dW "list" #[] 0)).update s.heap.objs.size (dh (·++vs.toArray))).objs.size=s.heap.objs.size+1:=by
  rw[gH,wV]
 have Y:(((s.heap.push (dW "list" #[] 0)).update s.heap.objs.size (dh (·++vs.toArray))).push (dW "list" vs.toArray 0)).get? (s.heap.objs.size+1)=some (dW "list" vs.toArray 0):=by
  rw[<- hsz];exact cz _ rfl
 have k0:∀c o,s.heap.get? c=some o->(((s.heap.push (dW "list" #[] 0)).update s.heap.objs.size (dh (·++vs.toArray))).push (dW "list" vs.toArray 0)).get? c=some o:=fun c o e=>by
  have lt:c<s.heap.objs.size:=aP e;rw[gp _ _ _ (by rw[hsz];exact aQ (iL lt)),EV _ _ _ _ (aQ lt),gp _ _ _ (aQ lt)];exact e
 have U:s.heap.get? (s.heap.objs.size+1)=none:=by
  cases e:s.heap.get? (s.heap.objs.size+1) with
  |none=>rfl
  |some o=>
   have:=aP e;exact absurd this (Nat.not_lt.mpr (gm _))
 show aX _ _ _ _ _ {s with heap:=((s.heap.push (dW "list" #[] 0)).update s.heap.objs.size (dh (·++vs.toArray))).push (dW "list" vs.toArray 0)};rw[hsz];refine ai (dU (LC BN {_,Y,rfl} As (vz (h0:=s.heap) (r:=r) Y k0 U h2 W (fun h' k Q q=>hk _ _ h' (ax _) k Q q) (fun h' k i j C hi V ne q=>hc _ h' (ax _) k i j C hi V ne q) fun p a1 a2=>{_,rfl,?_}) (NG _ _)));exact aO {_,rfl,h p a1 a2}
end
def BQ(H:Hp)(z:V×List Int):Prop:=∃a k Z,z.1=.ref a/\H a=some (.tup (.ref k::Z))/\H k=some (.tup (z.2.map V.int))
theorem uC:∀{xs:List V} {Z:List ae},c9 xs Z->∀(i:Nat),i<xs.length->∃v,Z.getD i Value.none=v/\∃x,xs[i]?=some x/\RelV x v
 |_,_,.nil,i,h=>absurd h (by simp)
 |_,_,.cons a b,0,h=>{_,rfl,_,rfl,a}
 |_,_,.cons a b,i+1,h=>by
  obtain⟨v,e,x,h1,h2⟩:=uC b i (by simpa using h);exact{v,by simpa using e,x,by simpa using h1,h2}
theorem yj{xs:List V}{Z:List ae}(h:c9 xs Z)(d:V):∀(is:List Nat),(∀i∈is,i<xs.length)->c9 (is.map fun i=>(xs.getD i d)) (is.map fun i=>Z.getD i Value.none)
 | [],_=>.nil
 |i::is,hb=>by
  obtain⟨v,e,x,h1,h2⟩:=uC h i (hb i aC);refine .cons ?_ (yj h d is fun j Y=>hb j (ak _ Y));show RelV (xs.getD i d) (Z.getD i Value.none);rw[e,dY,h1];exact h2
theorem BR{Z:Type}(l:List Z)(d:Z):(kL l.length).map (fun i=>l.getD i d)=l:=by
 apply GX;intro i;rw[cQ]
 by_cases h:i<l.length
 ·rw[List.getElem?_range h,Hn,dY,aH h];rfl
 ·rw[gL (by simpa using h),gL (by omega)];rfl
def p4:V×List Int:=(.non,[])
theorem Ho{zs:List (V×List Int)}(nd:(zs.map (·.2)).Nodup){p:Array Nat}(hp:Pm zs.length p)(hs:Srt (fun i=>(zs.reverse.getD i p4).2) p zs.length) :
  ((p.toList.map fun i=>zs.reverse.getD i p4).reverse).Perm zs/\((p.toList.map fun i=>zs.reverse.getD i p4).reverse).Pairwise (fun a b=>HT.lexLt b.2 a.2=true):=by
 have pl:p.toList.Perm (kL zs.length):=by simpa using iQ.mp hp
 have Y:(p.toList.map fun i=>zs.reverse.getD i p4).Perm zs:=by
  refine (pl.map _).trans ?_;have e:=BR zs.reverse p4;rw[jg]at e;rw[e];exact vh _
 refine{(vh _).trans Y,List.pairwise_reverse.mpr (dD.mpr fun i j hi W Z=>?_)};have U:((p.toList.map fun i=>zs.reverse.getD i p4).map (·.2)).Nodup:=(Y.map _).nodup_iff.mpr nd;have li:i<zs.length:=by
  have:=Y.length_eq;omega
 have O:j<zs.length:=by
  have:=Y.length_eq;omega
 have at_:∀k (h:k<(p.toList.map fun i=>zs.reverse.getD i p4).length),(p.toList.map fun i=>zs.reverse.getD i p4)[k].2=Rk (fun i=>(zs.reverse.getD i p4).2) p k:=fun k h=>by
  have hk:k<p.size:=by simpa using h
  unfold Rk;simp[p0,hk]
 have le:=hs i j (mj Z) O;have ne:=dD.mp U i j (by simpa using hi) (by simpa using W) Z;rw[at_ i hi,at_ j W];refine lx_of_not le fun z=>ne ((ja _).trans (Eq.trans ?_ (ja _).symm));rw[at_ i hi,at_ j W];exact z.symm
section
variable{X:Cx}{e:cU}{t:TA}{p pos kp bp:Pos}{j:Nat}
def NM(t:TA):TE:=fun σ H Q=>t σ H fun vs H1=>∃(p:aa) (zs:List (V×List Int)),vs=[.ref p]/\H1 p=some (.lst (zs.map (·.1)))/\(∀z∈zs,BQ H1 z)/\(zs.map (·.2)).Nodup/\zs.length<64 /\
 ∀(l:aa) (Z:List (V×List Int)),H1 l=none->Z.Perm zs->Z.Pairwise (fun a b=>HT.lexLt b.2 a.2=true)->Q (.ref l) (upd H1 l (.lst (Z.map (·.1))))
theorem yk{s:ao}{H:Hp}{P:aM}{w:bO}(ok:HOk P w H s.heap):∀{zs:List (V×List Int)} {Z:List ae},c9 (zs.map (·.1)) Z->(∀z∈zs,BQ H z)->∃fs,KatTups s.heap Z fs/\fs.length=Z.length/\∀f∈fs,∃k o,f=.ref k/\s.heap.get? k=some o/\o.cls=.type "tuple"
 | [],_,r,_=>by
  cases r;exact{[],KatTups.nil,rfl,fun f Y=>by cases Y}
 |z::zs,_,r,U=>by
  cases r with
  |cons a b=>
   obtain⟨fs,h1,h2,g⟩:=yk ok b fun z W=>U z (ak _ W);obtain⟨ad,k,ra,e1,D,e3⟩:=U z aC;have a:RelV z.1 _:=a;rw[e1]at a
   cases a;obtain⟨us,r1,o1,g1,c1,n1,d1⟩:=jc ok D;obtain⟨ws,r2,O,I,J,n2,d2⟩:=jc ok e3
   cases r1 with
   |cons a1 b1=>
    cases a1;refine{.ref k::fs,KatTups.cons g1 c1 d1 rfl h1,by rw[aS,aS,h2],fun f Y=>?_}
    rcases ar.mp Y with y|y
    ·exact⟨k,O,y,I,J⟩
    ·exact g f y
theorem Hq{ke:cU}(hu:X.A.units+5<eN)(hg:Gl X "sorted")(hm:X.mg "sorted"=none)(ha:PA X [e] t)(hk:PE X ke (tC (.bl true)))(he:jj pos (cK [e] X.env)=[(false,gf e X.env)]:=by rfl)
  (el:(oY pos (jm [{some "reverse",ke,kp}] X.env)).all (·.1.isSome)=true:=by rfl) (ef:(oY pos (jm [{some "reverse",ke,kp}] X.env)).any (·.1.isNone)=false:=by rfl)
  (ee:(oY pos (jm [{some "reverse",ke,kp}] X.env)).filterMap (·.1)=[jY "reverse"]:=by rfl) :
  PE X (.Call (.Name "sorted" p) [e] [{some "reverse",ke,kp}] pos) (NM t):=by
 intro pins s σ H Q I h;refine iD (uf I hg hm boot_sorted ?_);refine callWith_kw (thn (ha pos pins s σ H _ I h) fun us s1 ⟨vs,H1,I1,r1,q1⟩=>?_) (by rw[he];rfl) (by rw[he];rfl) el ef;obtain⟨l,zs,rfl,hl,hz,nd,dz,q⟩:=q1;obtain⟨u,rfl,ru⟩:=vals1 r1
 cases ru;refine kws_cons (thn (hk pins s1 σ H1 (fun v H2=>v=.bl true/\H2=H1) I1 (show _/\_ from⟨rfl,rfl⟩)) fun v s2 eh=>kws_nil ?_);obtain⟨y,H2,U,r2,e1,e2⟩:=eh;subst e1 e2
 cases r2;rw[ee];obtain⟨Z,n,rv,ho,dL⟩:=U.lst hl;have Y:=rv.length;rw[au]at Y;show aX _ _ (xw (.builtin "sorted") [.ref l] [(jY "reverse",.bool true)]) _ _ _
 by_cases c:Z.length<2
 ·refine BM (l:=l) (vs:=Z) {_,ho,rfl,n,rfl} c ?_;obtain⟨ep,O⟩:=sortedAll_at s2.heap Z Z.toArray;have two:2<=aB:=by decide
  have z:=U.laid (a:=s2.heap.objs.size+1) (o:=.lst (zs.map (·.1))) (t':=s2.toks) (fun _ _=>sortedAll_old) (gm _) (h':=Fx s2.heap Z Z.toArray) {by rw[au];omega,Z,ep,rv,O};refine{.ref (s2.heap.objs.size+1),_,z,rfl,q _ zs (U.hok.fresh (gm _)) (iB _) ?_}
  match zs,Y with
  | [],_=>exact List.Pairwise.nil
  | [_],_=>exact pU _ _
  |_::_::_,Y=>exact absurd c (by rw[<- Y];simp)
 ·have ec:∀{α:Type} (l:List α),lR true l=l.reverse:=fun l=>rfl;refine sorted_N (l:=l) (vs:=Z) (r:=fun i=>(zs.reverse.getD i p4).2) {_,ho,rfl,n,rfl} (by omega) (by omega) (fun A' E' h' hA k Q' q'=>?_) (fun A' h' hA k i j C hi hj ne q'=>?_) fun p hp hs=>?_
  ·have I3:=(U.kept (t':=s2.toks) k).hok;obtain⟨fs,h1,h2,h3⟩:=yk (s:={s2 with heap:=h'}) I3 rv hz;refine kat_kind (T:=.type "tuple") h1 (by omega) (fun v hv=>?_) (by rfl) ?_
   ·obtain⟨kk,o,rfl,g,cl⟩:=h3 v hv;rw[<- cl];exact (Looks.ld g).andThen .now
   ·exact q'
  ·have I3:=(U.kept (t':=s2.toks) k).hok;have D:=rv.reverse;rw[<- vR]at D;have at_:∀m,m<Z.length->∃(a kk:aa) (us ws:List ae),Z.reverse.getD m Value.none=.ref a/\rJ h' a (.ref kk::us).toArray/\rJ h' kk ws.toArray/\dQ ws (zs.reverse.getD m p4).2/\H2 kk=some (.tup ((zs.reverse.getD m p4).2.map V.int)):=fun m hm=>by
    have W:m<zs.reverse.length:=by rw[jg];omega
    obtain⟨v,ev,x,hx,rx⟩:=uC D m (by rw[au];exact W);rw[cQ,aH W]at hx
    cases hx;have ez:zs.reverse.getD m p4=zs.reverse[m]:=by rw[dY,aH W];rfl
    obtain⟨ad,kk,ra,e1,e2,e3⟩:=hz _ (List.mem_reverse.mp (vS W));have rx:RelV (zs.reverse[m]).1 v:=rx;rw[e1]at rx
    cases rx;obtain⟨us,r1,t1⟩:=jc (s:={s2 with heap:=h'}) I3 e2;obtain⟨ws,r2,t2⟩:=jc (s:={s2 with heap:=h'}) I3 e3
    cases r1 with
    |cons a1 b1=>
     cases a1;exact{ad,kk,_,ws,ev,t1,t2,by rw[ez];exact intsAre_of r2,by rw[ez];exact e3}
   obtain⟨a1,k1,dG,eb,g1,t1,u1,i1,m1⟩:=at_ i hi;obtain⟨a2,k2,dV,ea,g2,t2,u2,i2,m2⟩:=at_ j hj;have ed:(zs.reverse.getD i p4).2≠(zs.reverse.getD j p4).2:=by
    have ej:((zs.reverse).map (·.2)).Nodup:=((vh zs).map _).nodup_iff.mpr nd;have h1:i<zs.reverse.length:=by rw[jg];omega
    have h2:j<zs.reverse.length:=by rw[jg];omega
    rw[dY,aH h1,dY,aH h2];show (zs.reverse[i]).2≠(zs.reverse[j]).2
    rcases Hj ne with c|c
    ·exact fun z=>dD.mp ej i j (by simpa using h1) (by simpa using h2) c ((ja _).trans (z.trans (ja _).symm))
    ·exact fun z=>dD.mp ej j i (by simpa using h2) (by simpa using h1) c ((ja _).trans (z.symm.trans (ja _).symm))
   have eq:=yh (s:={s2 with heap:=h'}) (A:=A') I3 (by omega) m1 m2;rw[decide_eq_false ed]at eq;show aX _ A' (keyLt' (A9 false) (Z.reverse.getD i Value.none) (Z.reverse.getD j Value.none)) C _ _;rw[g1,g2];obtain⟨o1,y1,_,n1,d1⟩:=id t1;obtain⟨o2,y2,_,n2,d2⟩:=id t2;refine kat_lt (s:={s2 with heap:=h'}) y1 d1 y2 d2 (kat_cons (eq _ _ _ _ (kat_no (kat_one _ _ (HT.lt_tupInts u1 u2 i1 i2 (by omega) q')))))
  ·have J:Pm zs.length p:=by rw[Y];exact hp
   obtain⟨ek,ei⟩:=Ho nd J (by rw[Y];exact hs);have D:=rv.reverse;rw[<- vR]at D;have vo:=(yj D V.non p.toList fun i hi=>by
    rw[au,jg];have:=(iQ.mp J).mem_iff.mp hi;simpa using this).reverse
   have ev:(p.toList.map fun i=>(zs.reverse.map (·.1)).getD i V.non).reverse=((p.toList.map fun i=>zs.reverse.getD i p4).reverse).map (·.1):=by
    refine Eq.trans ?_ vR.symm;rw[dA]
    congr 1
    refine ie fun i _=>?_;show (zs.reverse.map (·.1)).getD i V.non=(zs.reverse.getD i p4).1;rw[dY,cQ,dY]
    cases zs.reverse[i]?<;>rfl
   rw[ev]at vo;obtain⟨ep,O⟩:=sortedAll_at s2.heap Z (vg (p.toList.map fun i=>Z.reverse.getD i Value.none).reverse);have z:=U.laid (a:=s2.heap.objs.size+1) (o:=.lst (((p.toList.map fun i=>zs.reverse.getD i p4).reverse).map (·.1))) (t':=s2.toks) (fun _ _=>sortedAll_old) (gm _) (h':=Fx s2.heap Z (vg (p.toList.map fun i=>Z.reverse.getD i Value.none).reverse)) ⟨by
    rw[au,ek.length_eq];have:64<=aB:=by decide
    omega,_,ep,vo,O⟩
   exact{.ref (s2.heap.objs.size+1),_,z,rfl,q _ _ (U.hok.fresh (gm _)) ek ei}
end
end L2
namespace PySem
open SeqAt MeetsSeq MeetsSeq2 MeetsSeq3 SeqRoads2
section
variable{prog:aM}{w:bO}{A:cj}{s:ao}
variable{K:Type}[DecidableEq K]{knd:KeyKind prog w K}
end
end PySem
namespace L2
open PySem PySem.Spec PyProof.Rows PySem.SeqAt
section
variable{X:Cx}
end
end L2
namespace L2
open PySem PySem.Spec PyProof.Rows
section
variable{X:Cx}
theorem zg(hu:X.A.units+50<eN):OpR X (c5 .NotEq) (fun x y H Q=>∃p q xs,x=.ref p/\y=.ref q/\H p=some (.lst xs)/\H q=some (.lst [])/\Q (.bl (!xs.isEmpty)) H):=by
 intro pins s σ H x y v u Q I Y Z h;obtain⟨p,q,xs,rfl,rfl,h1,h2,k⟩:=h
 cases xs with
 |nil=>exact GV hu pins s σ H _ _ v u Q I Y Z {1,p,q,by omega,rfl,rfl,.inr (.inl {p,q,[],[],rfl,rfl,h1,h2,.nil}),k}
 |cons a xs=>
  cases Y
  cases Z;obtain⟨us,r1,i1⟩:=iw I.hok h1;obtain⟨vs,r2,i2⟩:=iw I.hok h2
  cases r2;have hl:=r1.length;exact SeqAt.RcNeAt.lists_lengths i1 i2 (by
   cases us with
   |nil=>cases hl
   |cons b us=>simp) (by omega) X.prog X.w _ _ {.bl true,H,I,rfl,k}
end
section
variable{X:Cx}
end
theorem Hr{n m:Nat}{g:TG}{tc:TT}{te:TE}{σ:St}{H:Hp}{Q:VK}(Y:Nat->List V->Hp->Prop)(h0:Y 0 [] H)(hl:∀i ys H,i<=m->Y i ys H->ys.length<aB)
  (hs:∀i ys H,i<m->Y i ys H->g (.int (0+i)) (cI n none++σ) H fun Z H2=>Z.drop n=σ/\tc Z H2 fun b J=>if b=true then te Z J fun y I=>Y (i+1) (ys++[y]) I else Y (i+1) ys J)
  (hd:∀ys H,Y m ys H->∀p,H p=none->Q (.ref p) (upd H p (.lst ys))) :
  ∃W:Nat->Nat->List V->Hp->Prop,(∃k,W 0 k [] H)/\∀i k ys H,W i k ys H->ys.length<aB/\(((Itr 0 m).stop i H/\∀p,H p=none->Q (.ref p) (upd H p (.lst ys))) \/
   ((Itr 0 m).go i H/\∃N:List V->Hp->Prop,(∀O H',N O H'->∃k',k'<k/\W (i+1) k' O H')/\∀x H',(Itr 0 m).yld i H x H'->g x (cI n none++σ) H' fun Z H2=>Z.drop n=σ/\tc Z H2 fun b J=>
    if b=true then te Z J fun y I=>N (ys++[y]) I else N ys J)):=by
 refine{fun i k ys H=>k=m-i/\i<=m/\Y i ys H,{m,by simp,cm _,h0},?_};rintro i k ys H ⟨rfl,hi,U⟩;refine{hl i ys H hi U,?_}
 by_cases lt:i<m
 ·refine .inr {lt,Y (i+1),fun O H' D=>{m-(i+1),by omega,rfl,lt,D},fun x H' y=>?_};obtain⟨e,y⟩:=y;subst e y;exact hs i ys _ lt U
 ·have e:i=m:=by omega
  subst e;exact .inl {ax _,hd ys H U}
end L2
namespace My
open PySem L2
def top(i:Nat):cX:=PySem.Challenge.pw_momentloom_k44_forks.main.body.getD i (.Pass {0,0,0,0})
abbrev nJ:cX:=e9 (top 3) 0
abbrev o8:cX:=e9 (top 4) 0
abbrev qE:cX:=e9 (top 5) 0
abbrev sO:cX:=e9 (top 6) 0
abbrev qF:cX:=e9 (top 7) 0
abbrev qG:cX:=e9 (top 8) 0
abbrev o9:cX:=top 15
abbrev qH:cX:=top 16
abbrev lS:cX:=top 18
abbrev gD:cX:=top 19
abbrev gQ:cX:=top 20
abbrev eB:cX:=top 21
abbrev pf:cX:=e9 (top 23) 0
abbrev jv:cX:=e9 (top 23) 1
abbrev fu:cX:=e9 (top 23) 2
abbrev eX:cX:=e9 (top 23) 3
abbrev gT:cX:=e9 (top 23) 4
abbrev zh:cX:=top 24
abbrev pj:cX:=top 25
abbrev ij:cX:=top 26
abbrev mU:cX:=top 27
abbrev iG:cX:=top 28
abbrev oq:cX:=top 29
abbrev oy:cX:=top 30
abbrev oz:cX:=top 31
abbrev oA:cX:=top 32
abbrev oB:cX:=top 33
abbrev oC:cX:=top 35
abbrev pz:cX:=e9 (top 36) 0
abbrev jH:cX:=e9 (top 37) 0
abbrev iR:cX:=e9 (top 37) 1
abbrev j9:cX:=top 38
abbrev qI:cX:=e9 (top 40) 0
abbrev gc:cX:=top 41
abbrev nU:cX:=e9 (top 42) 0
abbrev gX:cX:=e9 (top 42) 1
abbrev fV:cX:=e9 (top 42) 2
abbrev iq:cX:=e9 (top 42) 3
abbrev fv:cX:=top 43
abbrev lT:cX:=top 44
abbrev tI:cX:=top 45
abbrev wX:cX:=top 47
abbrev nV:cX:=e9 (top 49) 0
abbrev jI:cX:=e9 (top 49) 1
abbrev iH:cX:=e9 (top 49) 2
abbrev iI:cX:=e9 (top 49) 4
abbrev eY:cX:=e9 (top 49) 5
abbrev mX:cX:=top 51
abbrev mY:cX:=top 52
abbrev eC:cX:=top 53
abbrev gb:cX:=top 54
abbrev gY:cX:=top 55
abbrev jw:cX:=top 56
abbrev lU:cX:=top 57
abbrev lV:cX:=top 58
abbrev pA:cX:=top 59
abbrev kD:cX:=top 60
abbrev ia:cX:=top 61
abbrev lW:cX:=top 62
abbrev kE:cX:=top 63
abbrev mZ:cX:=top 64
abbrev pB:cX:=top 65
abbrev pC:cX:=top 66
abbrev oE:cX:=top 67
abbrev m5:cX:=top 68
abbrev Hs:cX:=top 69
structure Df(K:af)(mg:Str->Option ae)(x:Str)(st:cX)(ps:List Str)(f:aa)(fd:bX):Prop where
 F:Fun K x x st f fd
 b:Binds K fd ps []
 m:mg x=some (.ref f)
structure Bl(mg:Str->Option ae):Prop where
 len:mg "len"=none
 abs:mg "abs"=none
 isi:mg "isinstance"=none
 list:mg "list"=none
 tuple:mg "tuple"=none
 str:mg "str"=none
 int:mg "int"=none
 bool:mg "bool"=none
 range:mg "range"=none
 max:mg "max"=none
 dict:mg "dict"=none
theorem boot_abs:eS "abs"=some (.builtin "abs"):=by decide +kernel
theorem fH:eS "isinstance"=some (.builtin "isinstance"):=by decide +kernel
theorem boot_list:eS "list"=some (.type "list"):=by decide +kernel
theorem boot_tuple:eS "tuple"=some (.type "tuple"):=by decide +kernel
theorem boot_int:eS "int"=some (.type "int"):=by decide +kernel
theorem boot_max:eS "max"=some (.builtin "max"):=by decide +kernel
theorem boot_dict:eS "dict"=some (.type "dict"):=by decide +kernel
def But(p:aa)(H H':Hp):Prop:=∀b o,H b=some o->b≠p->H' b=some o
theorem But.refl(p:aa)(H:Hp):But p H H:=fun _ _ e _=>e
theorem But.trans{p:aa}{H H1 H2:Hp}(a:But p H H1)(b:But p H1 H2):But p H H2:=fun c o e n=>b c o (a c o e n) n
theorem But.upd(p:aa)(H:Hp)(o:HO):But p H (upd H p o):=fun b u e n=>by rw[aN n];exact e
theorem But.same{p:aa}{H H1 H2:Hp}(a:But p H H1)(b:bh H1 H2):But p H H2:=fun c o e n=>b c o (a c o e n)
theorem aE{H:Hp}{p:aa}(h:H p=none)(o:HO):bh H (upd H p o):=fun b u q=>by rw[aN (aw q h)];exact q
theorem kF{c:Prop}[Decidable c](h:decide c=true):c:=of_decide_eq_true h
theorem kW{c:Prop}[Decidable c](h:¬decide c=true):¬c:=fun z=>h (decide_eq_true z)
theorem lt2:2<=aB:=by decide
theorem lt5:5<=aB:=by decide
def BU:V->Prop
 |.int _=>True
 |.str _=>True
 |_=>False
def Tree(H:Hp):Nat->V->Prop
 |0,v=>BU v
 |n+1,v=>BU v\/∃p xs,v=.ref p/\(H p=some (.lst xs)\/H p=some (.tup xs))/\xs.length<1000/\∀x∈xs,Tree H n x
def Alike(H H':Hp):Nat->V->V->Prop
 |0,v,Z=>Z=v
 |n+1,v,Z=>(BU v/\Z=v)\/(∃p Y xs ys,v=.ref p/\Z=.ref Y/\H p=some (.lst xs)/\H' Y=some (.lst ys)/\aK (Alike H H' n) xs ys) \/
   ∃p Y xs ys,v=.ref p/\Z=.ref Y/\H p=some (.tup xs)/\H' Y=some (.tup ys)/\aK (Alike H H' n) xs ys
theorem Alike.mono{H H1 H2:Hp}(s:bh H1 H2):∀{n:Nat} {v Z:V},Alike H H1 n v Z->Alike H H2 n v Z
 |0,_,_,h=>h
 |n+1,v,Z,h=>by
  rcases h with h|⟨p,W,xs,ys,e1,Y,h1,h2,r⟩|⟨p,W,xs,ys,e1,Y,h1,h2,r⟩
  ·exact .inl h
  ·exact .inr (.inl {p,W,xs,ys,e1,Y,h1,s _ _ h2,L2.Paired.imp' (fun _ _ z=>Alike.mono s z) r})
  ·exact .inr (.inr {p,W,xs,ys,e1,Y,h1,s _ _ h2,L2.Paired.imp' (fun _ _ z=>Alike.mono s z) r})
theorem Tree.same{H H1:Hp}(s:bh H H1):∀{n:Nat} {v:V},Tree H n v->Tree H1 n v
 |0,_,h=>h
 |n+1,v,h=>by
  rcases h with h|⟨p,xs,e,h1,h2,Z⟩
  ·exact .inl h
  ·exact .inr {p,xs,e,h1.imp (s _ _) (s _ _),h2,fun x hx=>Tree.same s (Z x hx)}
theorem Alike.from{H H0 H1:Hp}(s:bh H H0):∀{n:Nat} {v U:V},Tree H n v->Alike H0 H1 n v U->Alike H H1 n v U
 |0,_,_,_,h=>h
 |n+1,v,U,t,h=>by
  rcases t with t|⟨q,zs,e,t1,J,W⟩
  ·rcases h with h|⟨p,Z,xs,ys,e1,Y,h1,h2,r⟩|⟨p,Z,xs,ys,e1,Y,h1,h2,r⟩
   ·exact .inl h
   ·rw[e1]at t;exact t.elim
   ·rw[e1]at t;exact t.elim
  ·rcases h with h|⟨p,Z,xs,ys,e1,Y,h1,h2,r⟩|⟨p,Z,xs,ys,e1,Y,h1,h2,r⟩
   ·exact .inl h
   ·rw[e]at e1
    cases e1
    rcases t1 with t1|t1
    ·have z:=s _ _ t1;rw[h1]at z
     cases z;refine .inr (.inl {q,Z,zs,ys,e,Y,t1,h2,?_});clear h1 t1 J h2
     induction r with
     |nil=>exact .nil
     |cons a b O=>exact .cons (Alike.from s (W _ aC) a) (O fun x hx=>W x (ak _ hx))
    ·have z:=s _ _ t1;rw[h1]at z
     cases z
   ·rw[e]at e1
    cases e1
    rcases t1 with t1|t1
    ·have z:=s _ _ t1;rw[h1]at z
     cases z
    ·have z:=s _ _ t1;rw[h1]at z
     cases z;refine .inr (.inr {q,Z,zs,ys,e,Y,t1,h2,?_});clear h1 t1 J h2
     induction r with
     |nil=>exact .nil
     |cons a b O=>exact .cons (Alike.from s (W _ aC) a) (O fun x hx=>W x (ak _ hx))
theorem Ht{K:af}:bV K (.type "int") (.type "list")=some false:=by kernel_rfl
theorem Hu{K:af}:bV K (.type "str") (.type "list")=some false:=by kernel_rfl
theorem Hv{K:af}:bV K (.type "int") (.type "tuple")=some false:=by kernel_rfl
theorem Hw{K:af}:bV K (.type "str") (.type "tuple")=some false:=by kernel_rfl
theorem NO{K:af}:bV K (.type "list") (.type "list")=some true:=by rfl
theorem NP{K:af}:bV K (.type "tuple") (.type "list")=some false:=by kernel_rfl
theorem NQ{K:af}:bV K (.type "tuple") (.type "tuple")=some true:=by rfl
def Nw(H G:Hp):Hp:=fun a=>if H a=none then G a else none
theorem Aw{H G:Hp}{a:aa}(n:H a=none):Nw H G a=G a:=if_pos n
theorem nw_le{H G:Hp}:bh (Nw H G) G:=fun a o e=>by
 unfold Nw at e
 by_cases c:H a=none
 ·rw[if_pos c]at e;exact e
 ·rw[if_neg c]at e
  cases e
theorem vT{H G G':Hp}(s:bh G G'):bh (Nw H G) (Nw H G'):=fun a o e=>by
 by_cases c:H a=none
 ·rw[Aw c]at e |-;exact s _ _ e
 ·unfold Nw at e;rw[if_neg c]at e
  cases e
theorem C6{H0 H G:Hp}(d:∀a,H a=none->H0 a=none):bh (Nw H G) (Nw H0 G):=fun a o e=>by
 by_cases c:H a=none
 ·rw[Aw c]at e;rw[Aw (d a c)];exact e
 ·unfold Nw at e;rw[if_neg c]at e
  cases e
theorem tJ{H G:Hp}(s:bh H G):∀a,G a=none->H a=none:=fun a n=>by
 cases z:H a with
 |none=>rfl
 |some o=>
  rw[s _ _ z]at n
  cases n
section
variable{P:aM}{w:bO}{K:af}{mg:Str->Option ae}{base:cC}{f fC fI CM CS:aa}{fd fdC fdI:bX}
def qJ(n:Nat):Sp:=fun vs H Q _=>∃v,vs=[v]/\Tree H n v/\∀(Z:V) (H':Hp),bh H H'->Alike H (Nw H H') n v Z->Q Z H'
theorem scC:bN ["thing"] ["thing"] (aL oC):={}
theorem C7:(["part","thing"]:List Str).Nodup:=by decide +kernel
theorem yl{Y Z:Type}{R:Y->Z->Prop}{xs:List Y}{ys:List Z}{i:Nat}{x:Y}{y:Z}(r:aK R (xs.take i) ys)(hx:xs[i]?=some x)(h:R x y):aK R (xs.take (i+1)) (ys++[y]):=by
 have e:xs.take (i+1)=xs.take i++[x]:=by rw[gs,hx];rfl
 rw[e];exact eR r h
theorem Ax{n:Nat}(D:Df K mg "copied" oC ["thing"] f fd)(B:Bl mg)(G:bL P w K mg base CX0 (n+1) f fd ["thing"] (qJ n)):bL P w K mg base CX0 (n+2) f fd ["thing"] (qJ (n+1)):=by
 refine D.F.ok scC (fun vs H Q E h=>?_) (fun I A outer s H vs Q E hr h=>?_)
 ·obtain⟨v,rfl,_⟩:=h;rfl
 obtain⟨v,rfl,ht,q⟩:=h;refine⟨_,ah (cH (gJ (cb ju (by rfl) B.isi fH (aq (pv 0) (aq (kY (v:=.ty "list") (by rfl) B.list boot_list rfl) ag))))
   (aA (bE (o7 ["part"] (iX.closed (by decide +kernel) (by decide +kernel) rfl (by decide +kernel) (by intro n W;rcases aD.mp W with rfl;decide +kernel)) rfl (jB (pv 0)) (fun _ _ _ _=>eA (i:=0) C7 rfl (Or.inl rfl)) (fun _ _ _ _=>lu)
    (fun _ _ _ _=>aI G hr rfl D.m D.F.kp D.b .nil bC (aq (pv 0) ag))))) bP)
  (ah (cH (gJ (cb ju (by rfl) B.isi fH (aq (pv 0) (aq (kY (v:=.ty "tuple") (by rfl) B.tuple boot_tuple rfl) ag))))
   (aA (bE (hZ xE (by rfl) B.tuple boot_tuple (aq (o7 ["part"] (iX.closed (by decide +kernel) (by decide +kernel) rfl (by decide +kernel) (by intro n W;rcases aD.mp W with rfl;decide +kernel)) rfl (Nc (pv 0)) (fun _ _ _ _=>eA (i:=0) C7 rfl (Or.inl rfl)) (fun _ _ _ _=>lu)
    (fun _ _ _ _=>aI G hr rfl D.m D.F.kp D.b .nil bC (aq (pv 0) ag))) ag)))) bP)
  (aA (bE (pv 0)))),?_⟩
 have big:1000<aB:=by decide
 rcases ht with ht|⟨p,xs,rfl,hp,hl,hx⟩
 ·cases v with
  |int i=>
   refine{_,rfl,_,"list",_,false,rfl,.int i,Ht,_,rfl,eE ?_};refine{_,rfl,_,"tuple",_,false,rfl,.int i,Hv,_,rfl,eE ?_};exact{_,rfl,q _ _ (bh.refl H) (.inl ⟨trivial,rfl⟩)}
  |str x=>
   refine{_,rfl,_,"list",_,false,rfl,.str x,Hu,_,rfl,eE ?_};refine{_,rfl,_,"tuple",_,false,rfl,.str x,Hw,_,rfl,eE ?_};exact{_,rfl,q _ _ (bh.refl H) (.inl ⟨trivial,rfl⟩)}
  |non=>exact ht.elim
  |bl b=>exact ht.elim
  |byt b=>exact ht.elim
  |flt b=>exact ht.elim
  |ref a=>exact ht.elim
  |ty a=>exact ht.elim
 ·rcases hp with hp|hp
  ·refine{_,rfl,_,"list",_,true,rfl,.lst hp,NO,_,rfl,gG ?_};refine{_,rfl,p,rfl,{_,SqL.of hp},ye (K:=K) (a:=p) (xs:=xs) (fun i ys H1=>i<=xs.length/\ys.length=i/\bh H H1/\aK (Alike H (Nw H H1) n) (xs.take i) ys) {cm _,rfl,bh.refl H,.nil} ?_ ?_ ?_}
   ·rintro i ys H1 hi ⟨_,h1,h2,_⟩;exact{SqL.of (h2 _ _ hp),by omega}
   ·rintro i x ys H1 hi ⟨h0,h1,h2,Y⟩;have hm:x∈xs:=cB hi;have lt:i<xs.length:=(aG.mp hi).1;refine{rfl,?_};unfold xJ;refine gG ?_;refine{_,rfl,x,rfl,Tree.same h2 (hx x hm),fun J H2 s2 U=>?_};exact{lt,by rw[ay,h1];rfl,h2.trans s2,yl (L2.Paired.imp' (fun _ _ z=>Alike.mono (vT s2) z) Y) hi (Alike.mono (C6 (tJ h2)) (Alike.from h2 (hx x hm) U))}
   ·rintro ys H1 ⟨_,h1,h2,Y⟩ l Z;rw[fg]at Y;refine q _ _ (h2.trans (aE Z _)) (.inr (.inl {p,l,xs,ys,rfl,rfl,hp,(by rw[Aw (tJ h2 _ Z)];exact aj),L2.Paired.imp' (fun _ _ z=>Alike.mono (vT (aE Z _)) z) Y}))
  ·refine{_,rfl,_,"list",_,false,rfl,.tup hp,NP,_,rfl,eE ?_};refine{_,rfl,_,"tuple",_,true,rfl,.tup hp,NQ,_,rfl,gG ?_};refine{_,rfl,p,rfl,{_,SqT.of hp},Gm (K:=K) (a:=p) (xs:=xs) (Q:=fun v H1=>∃z ys,[v]=[V.ref z]/\((SqL K H1 z ys/\∀l,H1 l=none->Q (.ref l) (upd H1 l (.tup ys)))\/(SqT K H1 z ys/\Q (.ref z) H1))) (fun i ys H1=>i<=xs.length/\ys.length=i/\bh H H1/\aK (Alike H (Nw H H1) n) (xs.take i) ys) {cm _,rfl,bh.refl H,.nil} ?_ ?_ ?_}
   ·rintro i ys H1 hi ⟨_,h1,h2,_⟩;exact{SqT.of (h2 _ _ hp),by omega}
   ·rintro i x ys H1 hi ⟨h0,h1,h2,Y⟩;have hm:x∈xs:=cB hi;have lt:i<xs.length:=(aG.mp hi).1;refine{rfl,?_};unfold xJ;refine gG ?_;refine{_,rfl,x,rfl,Tree.same h2 (hx x hm),fun J H2 s2 U=>?_};exact{lt,by rw[ay,h1];rfl,h2.trans s2,yl (L2.Paired.imp' (fun _ _ z=>Alike.mono (vT s2) z) Y) hi (Alike.mono (C6 (tJ h2)) (Alike.from h2 (hx x hm) U))}
   ·rintro ys H1 ⟨_,h1,h2,Y⟩ l Z;rw[fg]at Y;refine{l,ys,rfl,.inl {SqL.of aj,fun t ht=>?_}};have O:bh H1 (upd (upd H1 l (.lst ys)) t (.tup ys)):=(aE Z _).trans (aE ht _);exact q _ _ (h2.trans O) (.inr (.inr {p,t,xs,ys,rfl,rfl,hp,(by rw[Aw (tJ (h2.trans (aE Z (.lst ys))) _ ht)];exact aj),L2.Paired.imp' (fun _ _ z=>Alike.mono (vT O) z) Y}))
theorem Ay(D:Df K mg "copied" oC ["thing"] f fd)(B:Bl mg):bL P w K mg base CX0 1 f fd ["thing"] (qJ 0):=by
 refine D.F.ok scC (fun vs H Q E h=>?_) (fun Z A outer s H vs Q E hr h=>?_)
 ·obtain⟨v,rfl,_⟩:=h;rfl
 obtain⟨v,rfl,ht,q⟩:=h;refine⟨_,ah (cH (gJ (cb ju (by rfl) B.isi fH (aq (pv 0) (aq (kY (v:=.ty "list") (by rfl) B.list boot_list rfl) ag)))) xV bP)
  (ah (cH (gJ (cb ju (by rfl) B.isi fH (aq (pv 0) (aq (kY (v:=.ty "tuple") (by rfl) B.tuple boot_tuple rfl) ag)))) xV bP)
  (aA (bE (pv 0)))),?_⟩
 have ht:BU v:=ht
 cases v with
 |int i=>
  refine{_,rfl,_,"list",_,false,rfl,.int i,Ht,_,rfl,eE ?_};refine{_,rfl,_,"tuple",_,false,rfl,.int i,Hv,_,rfl,eE ?_};exact{_,rfl,q _ _ (bh.refl H) rfl}
 |str x=>
  refine{_,rfl,_,"list",_,false,rfl,.str x,Hu,_,rfl,eE ?_};refine{_,rfl,_,"tuple",_,false,rfl,.str x,Hw,_,rfl,eE ?_};exact{_,rfl,q _ _ (bh.refl H) rfl}
 |non=>exact ht.elim
 |bl b=>exact ht.elim
 |byt b=>exact ht.elim
 |flt b=>exact ht.elim
 |ref a=>exact ht.elim
 |ty a=>exact ht.elim
theorem ym(D:Df K mg "copied" oC ["thing"] f fd)(B:Bl mg):∀n:Nat,bL P w K mg base CX0 (n+1) f fd ["thing"] (qJ n)
 |0=>Ay D B
 |n+1=>Ax D B (ym D B n)
structure MdT(K:af)(mg:Str->Option ae)(CM CS:aa):Prop where
 clM:Cls K CM
 clS:Cls K CS
 nM:eM K CM "machines"
 nB:eM K CS "boxes"
 nQ:eM K CS "queues"
 nD:eM K CS "drawn"
 nS:eM K CS "sent"
 mM:mg "Model"=some (.ref CM)
 mS:mg "State"=some (.ref CS)
inductive LD(CM:aa)(n:Nat)(vs:List V)(H:Hp)(Q:VK)(_e:XK):Prop where
 |mk(m dx:aa)(v:V)(_:vs=[.ref m,v])(_:H m=some (.ins CM dx []))(_:Tree H n v)(_:∀(v':V) (H':Hp),bh H H'->Alike H (Nw H H') n v v'->Q .non (upd H' m (.ins CM dx (cJ "machines" v' [])))):LD CM n vs H Q _e
def NR(CM:aa)(n:Nat):Sp:=fun vs H Q Z=>LD CM n vs H Q Z
theorem scMI:bN ["self","machines"] ["self","machines"] (aL pz):={}
theorem LF{n:Nat}(F:Fun K "__init__" "Model.__init__" pz f fd)(Z:Df K mg "copied" oC ["thing"] fC fdC)(B:Bl mg)(T:MdT K mg CM CS):bL P w K mg base CX0 (n+2) f fd ["self","machines"] (NR CM n):=by
 have V:bL P w K mg base CX0 (n+1) fC fdC ["thing"] (qJ n):=ym Z B n;refine F.ok scMI (fun vs H Q E h=>?_) (fun U A outer s H vs Q E hr h=>?_)
 ·obtain⟨m,dx,v,rfl,_⟩:=h;rfl
 obtain⟨m,dx,v,rfl,hm,ht,q⟩:=h;refine{_,aA (eT (pv 0) (aI V hr rfl Z.m Z.F.kp Z.b .nil bC (aq (pv 1) ag)) rfl),?_};refine{_,rfl,v,rfl,ht,fun W H' Y O=>?_};exact{_,rfl,m,CM,dx,[],rfl,Y _ _ hm,T.clM,T.nM,(by show 0<1000;decide),q W H' Y O}
def pE(b q d e:V):List (Str×V):=cJ "sent" e (cJ "drawn" d (cJ "queues" q (cJ "boxes" b [])))
inductive LH(CS:aa)(vs:List V)(H:Hp)(Q:VK)(_e:XK):Prop where
 |mk(m dx:aa)(b q d e:V)(_:vs=[.ref m,b,q,d,e])(_:H m=some (.ins CS dx []))(_:∀H':Hp,H' m=some (.ins CS dx (pE b q d e))->But m H H'->Q .non H'):LH CS vs H Q _e
def NS(CS:aa):Sp:=fun vs H Q Z=>LH CS vs H Q Z
theorem scSI:bN ["self","boxes","queues","drawn","sent"] ["self","boxes","queues","drawn","sent"] (aL jH):={}
theorem hV(f:Str)(v:V)(fs:List (Str×V)):(cJ f v fs).length<=fs.length+1:=by
 induction fs with
 |nil=>exact ax _
 |cons p r Z=>
  unfold cJ
  split
  ·rw[aS,aS];omega
  ·rw[aS,aS];omega
theorem LI(F:Fun K "__init__" "State.__init__" jH f fd)(T:MdT K mg CM CS):bL P w K mg base CX0 1 f fd ["self","boxes","queues","drawn","sent"] (NS CS):=by
 refine F.ok scSI (fun vs H Q E h=>?_) (fun Z A outer s H vs Q E hr h=>?_)
 ·obtain⟨m,dx,b,q,d,e,rfl,_⟩:=h;rfl
 obtain⟨m,dx,b,q,d,e,rfl,hm,k⟩:=h;refine{_,ah (eT (pv 0) (pv 1) rfl) (ah (eT (pv 0) (pv 2) rfl) (ah (eT (pv 0) (pv 3) rfl) (aA (eT (pv 0) (pv 4) rfl)))),?_};have Y:=hV "boxes" b [];have V:=hV "queues" q (cJ "boxes" b []);have W:=hV "drawn" d (cJ "queues" q (cJ "boxes" b []));simp only[cy]at Y;refine{_,rfl,_,rfl,m,CS,dx,[],rfl,hm,T.clS,T.nB,(by show 0<1000;decide),_,rfl,_,rfl,m,CS,dx,_,rfl,aj,T.clS,T.nQ,(by omega),_,rfl,_,rfl,m,CS,dx,_,rfl,aj,T.clS,T.nD,(by omega),_,rfl,_,rfl,m,CS,dx,_,rfl,aj,T.clS,T.nS,(by omega),?_};exact k _ aj (((But.upd m H _).trans (But.upd m _ _)).trans ((But.upd m _ _).trans (But.upd m _ _)))
inductive Hx(CM:aa)(vs:List V)(H:Hp)(Q:VK)(_e:XK):Prop where
 |mk(m dx l t b q:aa)(fs:List (Str×V))(n0 x3 x4:V)(_:vs=[.ref m,.int 0])(_:H m=some (.ins CM dx fs))(_:fs.lookup ("machines":Str)=some (V.ref l))(_:H l=some (.lst [.ref t]))(_:H t=some (.tup [n0,.ref b,.ref q,x3,x4]))(_:H b=some (.lst []))(_:H q=some (.lst []))(_:∀(st:aa) (H':Hp),bh H H'->Q (.ref st) H'):Hx CM vs H Q _e
theorem Kj:bN ["model","at","machine","queues","name"] ["model","at"] (aL j9):={}
end
section
variable{κ:Type}[DecidableEq κ]
abbrev rS(ps:List (κ×V))(m:List (κ×V)):List (κ×V):=ps.foldl (fun m p=>iW m p.1 p.2) m
end
theorem oF{H H':Hp}{n:Nat}{a:aa}{xs:List V}{y:V}(ha:H a=some (.lst xs))(z:Alike H H' (n+1) (.ref a) y):∃(Y:aa) (ys:List V),y=.ref Y/\H' Y=some (.lst ys)/\aK (Alike H H' n) xs ys:=by
 rcases z with⟨z,_⟩|⟨p,U,Z,ys,e1,W,h1,h2,r⟩|⟨p,U,Z,ys,e1,W,h1,h2,r⟩
 ·exact z.elim
 ·cases e1;rw[ha]at h1
  cases h1;exact⟨U,ys,W,h2,r⟩
 ·cases e1;rw[ha]at h1
  cases h1
theorem uD{H H':Hp}{n:Nat}{a:aa}{xs:List V}{y:V}(ha:H a=some (.tup xs))(z:Alike H H' (n+1) (.ref a) y):∃(Y:aa) (ys:List V),y=.ref Y/\H' Y=some (.tup ys)/\aK (Alike H H' n) xs ys:=by
 rcases z with⟨z,_⟩|⟨p,U,Z,ys,e1,W,h1,h2,r⟩|⟨p,U,Z,ys,e1,W,h1,h2,r⟩
 ·exact z.elim
 ·cases e1;rw[ha]at h1
  cases h1
 ·cases e1;rw[ha]at h1
  cases h1;exact⟨U,ys,W,h2,r⟩
theorem fJ{H H':Hp}{n:Nat}{v y:V}(hv:BU v)(z:Alike H H' n v y):y=v:=by
 cases n with
 |zero=>exact z
 |succ n=>
  rcases z with⟨_,z⟩|⟨p,W,Z,ys,e1,Y,h1,h2,r⟩|⟨p,W,Z,ys,e1,Y,h1,h2,r⟩
  ·exact z
  ·rw[e1]at hv;exact hv.elim
  ·rw[e1]at hv;exact hv.elim
theorem iS{H H':Hp}{n:Nat}{xs ys:List V}(r:aK (Alike H H' n) xs ys):(∀x∈xs,BU x)->ys=xs:=by
 induction r with
 |nil=>exact fun _=>rfl
 |cons a b Z=>
  intro h;rw[fJ (h _ aC) a,Z fun x hx=>h x (ak _ hx)]
def gU(H:Hp)(ps:List (Str×Int))(vs:List V):Prop:=vJ H (ps.map fun p=>(Sum.inr p.1,V.int p.2)) vs
theorem gU.same{H H':Hp}(s:bh H H'):∀{ps:List (Str×Int)} {vs:List V},gU H ps vs->gU H' ps vs
 | [],_,h=>by
  cases h;exact .nil
 |p::ps,_,h=>by
  cases h with
  |cons a b=>
   obtain⟨t,e,h⟩:=a;exact .cons {t,e,s _ _ h} (gU.same s (ps:=ps) b)
theorem gU.alike{H H':Hp}{n:Nat}:∀{ps:List (Str×Int)} {vs ys:List V},gU H ps vs->aK (Alike H H' (n+1)) vs ys->gU H' ps ys
 | [],_,_,h,r=>by
  cases h
  cases r;exact .nil
 |p::ps,_,_,h,r=>by
  cases h with
  |cons a b=>
   cases r with
   |cons r1 r2=>
    obtain⟨t,rfl,h⟩:=a;obtain⟨t',ys,rfl,h',Z⟩:=uD h r1;have e:=iS Z (fun x hx=>by
     simp only[ar,aV,or_false]at hx
     rcases hx with rfl|rfl
     ·exact trivial
     ·exact trivial)
    rw[e]at h';exact .cons ⟨t',rfl,h'⟩ (gU.alike (ps:=ps) b r2)
theorem gU.length{H:Hp}{ps:List (Str×Int)}{vs:List V}(h:gU H ps vs):ps.length=vs.length:=by
 have z:=aZ h;rw[au]at z;exact z
theorem gU.tree{H:Hp}{n:Nat}:∀{ps:List (Str×Int)} {vs:List V},gU H ps vs->∀x∈vs,Tree H (n+1) x
 | [],_,h,x,hx=>by
  cases h
  cases hx
 |p::ps,_,h,x,hx=>by
  cases h with
  |cons a b=>
   rcases ar.mp hx with rfl|hx
   ·obtain⟨t,rfl,h⟩:=a;refine .inr {t,_,rfl,.inr h,(by show 2<1000;decide),fun y hy=>?_};simp only[ar,aV,or_false]at hy
    rcases hy with rfl|rfl
    ·cases n<;>first|exact trivial|exact .inl trivial
    ·cases n<;>first|exact trivial|exact .inl trivial
   ·exact gU.tree (ps:=ps) b x hx
section
variable{P:aM}{w:bO}{K:af}{mg:Str->Option ae}{base:cC}{f fI CM CS:aa}{fd fdI:bX}
abbrev NT(ps:List (Str×Int)):List (Key×V):=rS (ps.map fun p=>((Sum.inr p.1:Key),V.int p.2)) []
abbrev quT(qs:List Str)(Z:List aa):List (Key×V):=rS ((qs.zip Z).map fun p=>((Sum.inr p.1:Key),V.ref p.2)) []
structure New(H H':Hp)(CS st:aa)(ps:List (Str×Int))(qs:List Str)(dx bd qd:aa)(ls:List aa):Prop where
 hst:H' st=some (.ins CS dx (pE (.ref bd) (.ref qd) (.int 0) (.int 0)))
 hbd:H' bd=some (.dK (NT ps))
 hqd:H' qd=some (.dK (quT qs ls))
 len:ls.length=qs.length
 nd:ls.Nodup
 li:∀l∈ls,H l=none/\H' l=some (.lst [])
 ost:H st=none
 obd:H bd=none
 oqd:H qd=none
 ne:qd≠bd
 same:bh H H'
inductive yn(CM CS:aa)(vs:List V)(H:Hp)(Q:VK)(_e:XK):Prop where
 |mk(m dx l t b q:aa)(fs:List (Str×V))(n0 x3 x4:V)(i:Nat)(ms vb:List V)(ps:List (Str×Int))(qs:List Str)(_:vs=[.ref m,.int (i:Int)])(_:H m=some (.ins CM dx fs))(_:fs.lookup ("machines":Str)=some (V.ref l))(_:H l=some (.lst ms))(_:ms[i]?=some (.ref t))(_:H t=some (.tup [n0,.ref b,.ref q,x3,x4]))(_:H b=some (.lst vb))(_:gU H ps vb)(_:ps.length<=100)(_:H q=some (.lst (qs.map V.str)))(_:qs.length<=100)(_:∀(st dx bd qd:aa) (ls:List aa) (H':Hp),New H H' CS st ps qs dx bd qd ls->Q (.ref st) H'):yn CM CS vs H Q _e
def Az(CM CS:aa):Sp:=fun vs H Q Z=>yn CM CS vs H Q Z
theorem Hy{Y Z:Type}{xs:List Y}{ys:List Z}{i:Nat}{x:Y}{y:Z}(hl:ys.length=i)(hx:xs[i]?=some x):(xs.take (i+1)).zip (ys++[y])=(xs.take i).zip ys++[(x,y)]:=by
 have lt:i<xs.length:=(aG.mp hx).1;have e:xs.take (i+1)=xs.take i++[x]:=by rw[gs,hx];rfl
 rw[e,List.zip_append (by rw[dH,hl];omega)];rfl
theorem rq(D:Df K mg "first_state" j9 ["model","at"] f fd)(MS:Mk K CS fI)(FI:Fun K "__init__" "State.__init__" jH fI fdI)(bI:Binds K fdI ["self","boxes","queues","drawn","sent"] [])(B:Bl mg)(T:MdT K mg CM CS) :
  bL P w K mg base CX0 3 f fd ["model","at"] (Az CM CS):=by
 have GI:bL P w K mg base CX0 1 fI fdI ["self","boxes","queues","drawn","sent"] (NS CS):=LI FI T;refine D.F.ok Kj (fun vs H Q E h=>?_) (fun cp A outer s H vs Q E hr h=>?_)
 ·obtain⟨m,dx,l,t,b,q,fs,n0,x3,x4,i,ms,vb,ps,qs,rfl,_⟩:=h;rfl
 obtain⟨m,dx,l,t,b,q,fs,n0,x3,x4,i,ms,vb,ps,qs,rfl,hm,dn,hl,hi,ht,hb,dc,cv,hq,cr,k⟩:=h;have hu:=mO hr;refine⟨_,ah (bJ (i:=2) Kj.nd rfl (Or.inl rfl) (bY dO (cV (pv 0) rfl) (pv 1) (fun _ _=>rfl)))
  (ah (bJ (i:=3) Kj.nd rfl (Or.inl rfl) tF)
  (ah (jX dC rfl (jB (bY cA (pv 2) av (fun _ _=>rfl))) (eA (i:=4) Kj.nd rfl (Or.inl rfl)) (aA (mQ hu (pv 3) (pv 4) (eU ag) rfl)))
  (aA (bE (j8 MS GI hr (by rfl) T.mS bI .nil bC (aq (hZ (BE rfl) (by rfl) B.dict boot_dict (aq (bY cA (pv 2) av (fun _ _=>rfl)) ag)) (aq (pv 3) (aq av (aq av ag))))))))),?_⟩
 refine{_,rfl,m,CM,dx,_,_,rfl,hm,T.clM,T.nM,dn,_,rfl,l,_,_,_,rfl,rfl,SqL.of hl,je hi,?_};intro d hd;have s1:bh H (upd H d (.dK [])):=aE hd _;have big:1000<aB:=by decide
 have a2:atI [n0,V.ref b,V.ref q,x3,x4] 2=some (V.ref q):=rfl;have a1:atI [n0,V.ref b,V.ref q,x3,x4] 1=some (V.ref b):=rfl;refine⟨_,rfl,t,_,_,_,rfl,rfl,SqT.of (s1 _ _ ht),a2,q,rfl,{_,SqL.of (s1 _ _ hq)},ko (K:=K) (a:=q) (xs:=qs.map V.str) (fun j σ G=>∃(v4:Option V) (Z:List aa),σ=[some (.ref m),some (.int (i:Int)),some (.ref t),some (.ref d),v4]/\j<=qs.length/\G d=some (.dK (quT (qs.take j) Z))/\Z.length=j/\Z.Nodup/\(∀z∈Z,H z=none/\G z=some (.lst []))/\bh H G)
  {none,[],rfl,cm _,aj,rfl,iV,(fun z Y=>by cases Y),s1} ?_ ?_ ?_⟩
 ·rintro j σ G _ ⟨v4,Z,rfl,_,_,_,_,_,sm⟩;exact SqL.of (sm _ _ hq)
 ·rintro j x σ G g ⟨v4,Z,rfl,jl,W,ll,nd,li,sm⟩;obtain⟨nm,I,rfl⟩:∃nm,qs[j]?=some nm/\x=V.str nm:=by
   rw[cQ]at g
   cases e:qs[j]? with
   |none=>rw[e]at g;cases g
   |some nm=>rw[e]at g;cases g;exact⟨nm,rfl,rfl⟩
  have di:j<qs.length:=(aG.mp I).1;refine{cm _,fun z Y=>?_};have dv:d≠z:=aw W Y;have de:upd G z (.lst []) d=some (.dK (quT (qs.take j) Z)):=by rw[aN dv];exact W
  have lt:(quT (qs.take j) Z).length<aB:=by
   have O:=Ap ((((qs.take j).zip Z).map fun p=>((Sum.inr p.1:Key),V.ref p.2))) [];rw[au,qK,dH]at O;simp only[cy]at O;exact jF O (by omega)
  refine{_,rfl,_,rfl,d,_,rfl,uw.k (k:=Sum.inr nm) de lt,?_};have fz:H z=none:=sm.free Y;have dj:z∉Z:=fun c=>by
   have O:=(li z c).2;rw[Y]at O
   cases O
  refine{_,Z++[z],rfl,di,?_,by rw[ay,ll];rfl,y7 nd dj,fun y hy=>?_,?_}
  ·show upd _ d _ d=_;rw[aj];show some (HO.dK (iW (quT (qs.take j) Z) (Sum.inr nm) (.ref z)))=some (HO.dK (quT (qs.take (j+1)) (Z++[z])));unfold quT;rw[Hy ll I,cw];unfold rS;rw[vi];rfl
  ·rcases bZ.mp hy with c|c
   ·obtain⟨c1,U⟩:=li y c;refine{c1,?_};rw[aN (pO U W (by intro e;cases e)),aN (aw U Y)];exact U
   ·rw[aD.mp c];refine{fz,?_};rw[aN dv.symm];exact aj
  ·intro c o hc;have U:=sm _ _ hc;have cd:c≠d:=aw hc hd;rw[aN cd,aN (aw U Y)];exact U
 ·rintro σ G ⟨v4,Z,rfl,jl,W,ll,nd,li,sm⟩;rw[au]at ll W;rw[fg]at W;refine{_,rfl,t,_,_,_,rfl,rfl,SqT.of (sm _ _ ht),a1,b,vb,_,rfl,sm _ _ hb,gU.same sm dc,by rw[au];omega,fun e he=>?_};have s2:bh G (upd G e (.dK (NT ps))):=aE he _;refine{_,rfl,?_};intro x J nx dt da;refine{x,J,_,_,_,_,rfl,aj,fun H' hx bt=>{rfl,k x J e d Z H' ?_}};have up:∀{c:aa} {o:HO},upd G e (.dK (NT ps)) c=some o->H' c=some o:=fun {c o} hc=>by
   have cx:c≠x:=aw hc nx;refine bt c o ?_ cx;rw[aN cx,aN (aw hc dt)];exact hc
  exact{hx,up aj,up (s2 _ _ W),ll,nd,fun z Y=>{(li z Y).1,up (s2 _ _ (li z Y).2)},sm.free (s2.free nx),sm.free he,hd,aw W he,fun c o hc=>up (s2 _ _ (sm _ _ hc))}
end
section
variable{κ:Type}[DecidableEq κ]
theorem BV:∀(ps m:List (κ×V)),((m++ps).map (·.1)).Nodup->rS ps m=m++ps
 | [],m,_=>by simp[rS]
 |p::r,m,h=>by
  have nk:jQ m p.1=none:=by
   cases e:jQ m p.1 with
   |none=>rfl
   |some v=>
    exfalso;rw[cw,cg]at h;exact (iJ.mp h).2.2 p.1 (CH e) p.1 aC rfl
  show rS r (iW m p.1 p.2)=_;rw[Aa p.2 nk,BV r (m++[(p.1,p.2)]) (by rw[iK];exact h),iK];rfl
end
theorem gU.tups{H H':Hp}(s:∀t xs,H t=some (.tup xs)->H' t=some (.tup xs)):∀{ps:List (Str×Int)} {vs:List V},gU H ps vs->gU H' ps vs
 | [],_,h=>by
  cases h;exact .nil
 |p::ps,_,h=>by
  cases h with
  |cons a b=>
   obtain⟨t,e,h⟩:=a;exact .cons {t,e,s _ _ h} (gU.tups s (ps:=ps) b)
def C8:List Str:=["plus","less","times","part","rest","below","same"]
inductive Fm where
 |num(n:Int)
 |box(x:Str)
 |long(x:Str)
 |got(j:Bool)
 |now
 |two(k:Str)(f g:Fm)
def Fm.depth:Fm->Nat
 |.two _ f g=>max f.depth g.depth+1
 |_=>1
inductive Rs where
 |ok(r:Int)
 |nought
 |great
def AA(k:Str)(a b:Int):Rs:=
 if k="plus" then .ok (a+b) else if k="less" then .ok (a-b) else if k="times" then .ok (a*b) else if k="below" then .ok (if a<b then 1 else 0)
 else if k="same" then .ok (if a=b then 1 else 0) else if b=0 then .nought else if k="part" then .ok (a.fdiv b) else .ok (a.fmod b)
def tK(r:Int):Int:=if r<0 then -r else r
def cap:Rs->Rs
 |.ok r=>if 10^15<tK r then .great else .ok r
 |.nought=>.nought
 |.great=>.great
structure zi where
 bx:Str->Int
 lg:Str->Nat
 g0:Int
 g1:Int
 nw:Int
def ev(e:zi):Fm->Rs
 |.num n=>.ok n
 |.box x=>.ok (e.bx x)
 |.long x=>.ok (e.lg x)
 |.got j=>.ok (if j then e.g1 else e.g0)
 |.now=>.ok e.nw
 |.two k f g=>match ev e f with
  |.ok a=>(match ev e g with
   |.ok b=>cap (AA k a b)
   |.nought=>.nought
   |.great=>.great)
  |.nought=>.nought
  |.great=>.great
def Wo(a:Int):Prop:=-(10^15)<=a/\a<=10^15
structure zi.Ok(e:zi)(bs qs:List Str):Prop where
 bx:∀x∈bs,Wo (e.bx x)
 lg:∀x∈qs,e.lg x<=1000
 g0:Wo e.g0
 g1:Wo e.g1
 nw:Wo e.nw
inductive jz(bs qs:List Str)(H:Hp):V->Fm->Prop where
 |num{t:aa}{n:Int}:H t=some (.tup [.str "number",.int n])->Wo n->jz bs qs H (.ref t) (.num n)
 |box{t:aa}{x:Str}:H t=some (.tup [.str "box",.str x])->x∈bs->jz bs qs H (.ref t) (.box x)
 |long{t:aa}{x:Str}:H t=some (.tup [.str "long",.str x])->x∈qs->jz bs qs H (.ref t) (.long x)
 |got{t:aa}{j:Bool}:H t=some (.tup [.str "got",.int (if j then 1 else 0)])->jz bs qs H (.ref t) (.got j)
 |now{t:aa}:H t=some (.tup [.str "now"])->jz bs qs H (.ref t) .now
 |two{t:aa}{k:Str}{u v:V}{f g:Fm}:H t=some (.tup [.str k,u,v])->k∈C8->jz bs qs H u f->jz bs qs H v g->jz bs qs H (.ref t) (.two k f g)
theorem jz.mono{bs qs:List Str}{H H':Hp}{v:V}{f:Fm}(h:jz bs qs H v f)(s:∀t xs,H t=some (.tup xs)->H' t=some (.tup xs)):jz bs qs H' v f:=by
 induction h with
 |num h1 h2=>exact .num (s _ _ h1) h2
 |box h1 h2=>exact .box (s _ _ h1) h2
 |long h1 h2=>exact .long (s _ _ h1) h2
 |got h1=>exact .got (s _ _ h1)
 |now h1=>exact .now (s _ _ h1)
 |two h1 h2 _ _ i1 i2=>exact .two (s _ _ h1) h2 i1 i2
theorem jz.same{bs qs:List Str}{H H':Hp}{v:V}{f:Fm}(h:jz bs qs H v f)(s:bh H H'):jz bs qs H' v f:=h.mono fun _ _ e=>s _ _ e
theorem Hz{r:Int}(h:¬10^15<tK r):Wo r:=by
 unfold tK at h;unfold Wo
 split at h<;>omega
theorem HA{r:Int}(h:Wo r):¬10^15<tK r:=by
 unfold Wo at h;unfold tK
 split<;>omega
theorem NU{x:Rs}{r:Int}(h:cap x=.ok r):Wo r:=by
 cases x with
 |ok y=>
  unfold cap at h;dsimp only at h
  by_cases c:10^15<tK y
  ·rw[if_pos c]at h
   cases h
  ·rw[if_neg c]at h
   cases h;exact Hz c
 |nought=>cases h
 |great=>cases h
theorem lg_wo{n:Nat}(h:n<=1000):Wo (n:Int):=by
 unfold Wo;omega
theorem vj{bs qs:List Str}{H:Hp}{e:zi}(ok:e.Ok bs qs){v:V}{f:Fm}(h:jz bs qs H v f):∀{r:Int},ev e f=.ok r->Wo r:=by
 induction h with
 |num h1 h2=>
  intro r q;unfold ev at q
  cases q;exact h2
 |box h1 h2=>
  intro r q;unfold ev at q
  cases q;exact ok.bx _ h2
 |long h1 h2=>
  intro r q;unfold ev at q
  cases q;exact lg_wo (ok.lg _ h2)
 |@got t j h1=>
  intro r q;unfold ev at q
  cases q
  cases j
  ·exact ok.g0
  ·exact ok.g1
 |now h1=>
  intro r q;unfold ev at q
  cases q;exact ok.nw
 |@two t k u v f g h1 h2 _ _ i1 i2=>
  intro r q;unfold ev at q
  cases e1:ev e f with
  |ok a=>
   rw[e1]at q
   cases e2:ev e g with
   |ok b=>
    rw[e2]at q;exact NU q
   |nought=>rw[e2]at q;cases q
   |great=>rw[e2]at q;cases q
  |nought=>rw[e1]at q;cases q
  |great=>rw[e1]at q;cases q
def yo(CN CG:aa)(r:Rs)(Q:VK)(E:XK)(H:Hp):Prop:=match r with
 |.ok r=>Q (.int r) H
 |.nought=>E (.ref CN) none H
 |.great=>E (.ref CG) none H
section
variable{P:aM}{w:bO}{K:af}{mg:Str->Option ae}{base:cC}{f fD fT fL CN CG CM CS:aa}{fd fdD fdT fdL:bX}
structure Fts(K:af)(mg:Str->Option ae)(CN CG:aa):Prop where
 mN:mg "Nought"=some (.ref CN)
 mG:mg "Great"=some (.ref CG)
 xN:cT K CN o6 "ValueError.__new__"=true
 xG:cT K CG o6 "ValueError.__new__"=true
 nn:cN K (.ref CN) (.ref CN)=some true
 gn:cN K (.ref CG) (.ref CN)=some false
 gg:cN K (.ref CG) (.ref CG)=some true
inductive HB(CN:aa)(vs:List V)(H:Hp)(Q:VK)(E:XK):Prop where
 |mk(k:Str)(a b:Int)(_:vs=[.str k,.int a,.int b])(_:Wo b)(_:(b=0->E (.ref CN) none H))(_:(¬b=0->k="part"->Q (.int (a.fdiv b)) H))(_:(¬b=0->¬k="part"->Q (.int (a.fmod b)) H)):HB CN vs H Q E
def LJ(CN:aa):Sp:=fun vs H Q E=>HB CN vs H Q E
theorem scDv:bN ["kind","first","second"] ["kind","first","second"] (aL eB):={}
theorem zj{a b:Int}(h:V.int a=V.int b):a=b:=V.int.inj h
theorem uE{a b:Str}(h:V.str a=V.str b):a=b:=V.str.inj h
theorem NV(D:Df K mg "number_of_division" eB ["kind","first","second"] f fd)(T:Fts K mg CN CG):bL P w K mg base (CXo P w) 1 f fd ["kind","first","second"] (LJ CN):=by
 refine D.F.okX scDv (fun vs H Q E h=>?_) (fun W A outer s H vs Q E hr h=>?_)
 ·obtain⟨k,a,b,rfl,_⟩:=h;rfl
 obtain⟨k,a,b,rfl,hb,h1,h2,Y⟩:=h;refine⟨_,ah (cH (bQ fc (pv 2) av (cq _)) (aA (jG dR rfl rfl T.mN T.xN (aq bS ag))) bP)
  (ah (cH (bQ fc (pv 0) bS (cq _)) (aA (bE (cR Gw (pv 1) (pv 2)))) bP)
  (aA (bE (cR JC (pv 1) (pv 2))))),?_⟩
 refine{_,rfl,rfl,_,rfl,?_};refine gC (fun c=>?_) (fun c=>?_)
 ·exact{(by show 1<=aB;decide),h1 (zj (kF c))}
 ·have nb:¬b=0:=fun z=>kW c (by rw[z]);refine{_,rfl,rfl,_,rfl,?_};refine gC (fun Z=>?_) (fun Z=>?_)
  ·refine{_,rfl,_,rfl,_,_,rfl,rfl,{nb,?_},h2 nb (uE (kF Z))};unfold Wo at hb;omega
  ·exact{_,rfl,_,rfl,_,_,rfl,rfl,nb,Y nb (fun z=>kW Z (by rw[z]))}
inductive HC(CN CG:aa)(vs:List V)(H:Hp)(Q:VK)(E:XK):Prop where
 |mk(k:Str)(a b:Int)(_:vs=[.str k,.int a,.int b])(_:Wo a)(_:Wo b)(_:yo CN CG (AA k a b) Q E H):HC CN CG vs H Q E
def LK(CN CG:aa):Sp:=fun vs H Q E=>HC CN CG vs H Q E
theorem scTw:bN ["kind","first","second"] ["kind","first","second"] (aL gQ):={}
theorem NW(D:Df K mg "number_of_two" gQ ["kind","first","second"] f fd)(Y:Df K mg "number_of_division" eB ["kind","first","second"] fD fdD)(T:Fts K mg CN CG) :
  bL P w K mg base (CXo P w) 2 f fd ["kind","first","second"] (LK CN CG):=by
 have U:bL P w K mg base (CXo P w) 1 fD fdD ["kind","first","second"] (LJ CN):=NV Y T;refine D.F.okX scTw (fun vs H Q E h=>?_) (fun O A outer s H vs Q E hr h=>?_)
 ·obtain⟨k,a,b,rfl,_⟩:=h;rfl
 obtain⟨k,a,b,rfl,ha,hb,h⟩:=h;unfold AA at h;refine⟨_,ah (cH (bQ fc (pv 0) bS (cq _)) (aA (bE (cR gK (pv 1) (pv 2)))) bP)
  (ah (cH (bQ fc (pv 0) bS (cq _)) (aA (bE (cR jk (pv 1) (pv 2)))) bP)
  (ah (cH (bQ fc (pv 0) bS (cq _)) (aA (bE (cR r9 (pv 1) (pv 2)))) bP)
  (ah (cH (bQ fc (pv 0) bS (cq _)) (aA (bE (wj (bQ rN (pv 1) (pv 2) (cq _)) av av))) bP)
  (ah (cH (bQ fc (pv 0) bS (cq _)) (aA (bE (wj (bQ fc (pv 1) (pv 2) (cq _)) av av))) bP)
  (aA (bE (aI U hr rfl Y.m Y.F.kp Y.b .nil (dR.passes fun _ _ _ z=>z) (aq (pv 0) (aq (pv 1) (aq (pv 2) ag)))))))))),?_⟩
 refine{_,rfl,rfl,_,rfl,gC (fun c=>?_) (fun c=>?_)}
 ·rw[if_pos (uE (kF c))]at h;exact{_,rfl,_,rfl,_,_,rfl,rfl,h}
 rw[if_neg fun z=>kW c (by rw[z])]at h;refine{_,rfl,rfl,_,rfl,gC (fun c=>?_) (fun c=>?_)}
 ·rw[if_pos (uE (kF c))]at h;exact{_,rfl,_,rfl,_,_,rfl,rfl,h}
 rw[if_neg fun z=>kW c (by rw[z])]at h;refine{_,rfl,rfl,_,rfl,gC (fun c=>?_) (fun c=>?_)}
 ·rw[if_pos (uE (kF c))]at h;refine{_,rfl,_,rfl,_,_,rfl,rfl,.inl {?_,?_},h}
  ·unfold Wo at ha;omega
  ·unfold Wo at ha;omega
 rw[if_neg fun z=>kW c (by rw[z])]at h;refine{_,rfl,rfl,_,rfl,gC (fun c=>?_) (fun c=>?_)}
 ·rw[if_pos (uE (kF c))]at h;refine{_,rfl,_,rfl,_,_,rfl,rfl,_,rfl,gC (fun Z=>?_) (fun Z=>?_)}
  ·rw[if_pos (kF Z)]at h;exact h
  ·rw[if_neg (kW Z)]at h;exact h
 rw[if_neg fun z=>kW c (by rw[z])]at h;refine{_,rfl,rfl,_,rfl,gC (fun c=>?_) (fun c=>?_)}
 ·rw[if_pos (uE (kF c))]at h;refine{_,rfl,_,rfl,rfl,_,rfl,gC (fun Z=>?_) (fun Z=>?_)}
  ·rw[if_pos (zj (kF Z))]at h;exact h
  ·rw[if_neg fun z=>kW Z (by rw[z])]at h;exact h
 rw[if_neg fun z=>kW c (by rw[z])]at h;refine{_,rfl,_,rfl,_,rfl,k,a,b,rfl,hb,fun z=>?_,fun V W=>?_,fun V W=>?_}
 ·rw[if_pos z]at h;exact h
 ·rw[if_neg V,if_pos W]at h;exact h
 ·rw[if_neg V,if_neg W]at h;exact h
structure Holds(K:af)(CS:aa)(bs qs:List Str)(H:Hp)(st gl:aa)(e:zi):Prop where
 ex:∃(dx bd qd:aa) (fs:List (Str×V)) (bk qk:List (Key×V)),H st=some (.ins CS dx fs)/\fs.lookup ("boxes":Str)=some (.ref bd)/\fs.lookup ("queues":Str)=some (.ref qd)/\H bd=some (.dK bk)/\H qd=some (.dK qk) /\
  (∀x∈bs,jQ bk (Sum.inr x)=some (.int (e.bx x)))/\(∀x∈qs,∃l xs,jQ qk (Sum.inr x)=some (.ref l)/\H l=some (.lst xs)/\xs.length=e.lg x)
 hgl:H gl=some (.lst [.int e.g0,.int e.g1])
inductive C9(K:af)(CS:aa)(bs qs:List Str)(vs:List V)(H:Hp)(Q:VK)(_e:XK):Prop where
 |mk(v:V)(F:Fm)(st gl:aa)(e:zi)(_:vs=[v,.ref st,.int e.nw,.ref gl])(_:jz bs qs H v F)(_:F.depth<=1)(_:Holds K CS bs qs H st gl e)(_:∀r,ev e F=.ok r->Q (.int r) H):C9 K CS bs qs vs H Q _e
def HD(K:af)(CS:aa)(bs qs:List Str):Sp:=fun vs H Q Z=>C9 K CS bs qs vs H Q Z
theorem scLf:bN ["formula","state","now","got","kind"] ["formula","state","now","got"] (aL gD):={}
theorem HE:¬(("box":Str)="number")/\¬(("long":Str)="number")/\¬(("long":Str)="box")/\¬(("got":Str)="number")/\¬(("got":Str)="box")/\¬(("got":Str)="long")/\¬(("now":Str)="number")/\¬(("now":Str)="box")/\¬(("now":Str)="long")/\¬(("now":Str)="got"):=by decide +kernel
theorem vA{a b:Str}(h:¬a=b):decide (V.str a=V.str b)=false:=decide_eq_false fun z=>h (V.str.inj z)
theorem EW(a:Str):decide (V.str a=V.str a)=true:=decide_eq_true rfl
theorem oG{c:Bool}{b:Bool}{p q:Prop}(h:c=b)(t:if b=true then p else q):if c=true then p else q:=by
 rw[h];exact t
theorem Kk{bs qs:List Str}(D:Df K mg "number_of_leaf" gD ["formula","state","now","got"] f fd)(T:MdT K mg CM CS)(B:Bl mg):bL P w K mg base CX0 1 f fd ["formula","state","now","got"] (HD K CS bs qs):=by
 refine D.F.ok scLf (fun vs H Q E h=>?_) (fun bF A outer s H vs Q E hr h=>?_)
 ·obtain⟨v,F,st,Y,e,rfl,_⟩:=h;rfl
 obtain⟨v,F,st,Y,e,rfl,hF,hd,⟨⟨dx,bd,qd,fs,bk,qk,h1,h2,O,h4,h5,I,h7⟩,W⟩,q⟩:=h;have hu:=mO hr;refine⟨_,ah (bJ (i:=4) scLf.nd rfl (Or.inl rfl) (bY cA (pv 0) av (fun _ _=>rfl)))
  (ah (cH (bQ fc (pv 4) bS (cq _)) (aA (bE (bY cA (pv 0) av (fun _ _=>rfl)))) bP)
  (ah (cH (bQ fc (pv 4) bS (cq _)) (aA (bE (rp hu (cV (pv 1) rfl) (bY cA (pv 0) av (fun _ _=>rfl)) (fun _ _=>rfl)))) bP)
  (ah (cH (bQ fc (pv 4) bS (cq _)) (aA (bE (cb ig (by rfl) B.len cu (aq (rp hu (cV (pv 1) rfl) (bY cA (pv 0) av (fun _ _=>rfl)) (fun _ _=>rfl)) ag)))) bP)
  (ah (cH (bQ fc (pv 4) bS (cq _)) (aA (bE (bY dO (pv 3) (bY cA (pv 0) av (fun _ _=>rfl)) (fun _ _=>rfl)))) bP)
  (aA (bE (pv 2))))))),?_⟩
 obtain⟨k1,k2,k3,k4,k5,J,g,k8,V,Z⟩:=HE
 cases hF with
 |@num t n ht hn=>
  refine{_,rfl,t,_,_,_,rfl,rfl,SqT.of ht,rfl,_,rfl,rfl,_,rfl,oG (EW _) (gG ?_)};exact{_,rfl,t,_,_,_,rfl,rfl,SqT.of ht,rfl,q _ rfl}
 |@box t x ht hx=>
  refine{_,rfl,t,_,_,_,rfl,rfl,SqT.of ht,rfl,_,rfl,rfl,_,rfl,oG (vA k1) (eE ?_)};refine{_,rfl,rfl,_,rfl,oG (EW _) (gG ?_)};exact{_,rfl,st,CS,dx,_,_,rfl,h1,T.clS,T.nB,h2,_,rfl,t,_,_,_,rfl,rfl,SqT.of ht,rfl,bd,_,rfl,(by have z:=pZ.k (k:=Sum.inr x) h4;rw[I x hx]at z;exact z),q _ rfl}
 |@long t x ht hx=>
  obtain⟨l,xs,g1,g2,U⟩:=h7 x hx;refine{_,rfl,t,_,_,_,rfl,rfl,SqT.of ht,rfl,_,rfl,rfl,_,rfl,oG (vA k2) (eE ?_)};refine{_,rfl,rfl,_,rfl,oG (vA k3) (eE ?_)};refine{_,rfl,rfl,_,rfl,oG (EW _) (gG ?_)};exact{_,rfl,st,CS,dx,_,_,rfl,h1,T.clS,T.nQ,O,_,rfl,t,_,_,_,rfl,rfl,SqT.of ht,rfl,qd,_,rfl,(by have z:=pZ.k (k:=Sum.inr x) h5;rw[g1]at z;exact z),l,xs,rfl,.inl (SqL.of g2),q _ (by rw[U];rfl)}
 |@got t j ht=>
  refine{_,rfl,t,_,_,_,rfl,rfl,SqT.of ht,rfl,_,rfl,rfl,_,rfl,oG (vA k4) (eE ?_)};refine{_,rfl,rfl,_,rfl,oG (vA k5) (eE ?_)};refine{_,rfl,rfl,_,rfl,oG (vA J) (eE ?_)};refine{_,rfl,rfl,_,rfl,oG (EW _) (gG ?_)}
  cases j
  ·exact{_,rfl,_,rfl,t,_,_,_,rfl,rfl,SqT.of ht,rfl,Y,_,_,_,rfl,rfl,SqL.of W,rfl,q _ rfl}
  ·exact{_,rfl,_,rfl,t,_,_,_,rfl,rfl,SqT.of ht,rfl,Y,_,_,_,rfl,rfl,SqL.of W,rfl,q _ rfl}
 |@now t ht=>
  refine{_,rfl,t,_,_,_,rfl,rfl,SqT.of ht,rfl,_,rfl,rfl,_,rfl,oG (vA g) (eE ?_)};refine{_,rfl,rfl,_,rfl,oG (vA k8) (eE ?_)};refine{_,rfl,rfl,_,rfl,oG (vA V) (eE ?_)};refine{_,rfl,rfl,_,rfl,oG (vA Z) (eE ?_)};exact{_,rfl,q _ rfl}
 |@two t k u v f1 f2 ht hk h1 h2=>
  have z1:0<f1.depth:=by cases f1<;>exact qL _
  unfold Fm.depth at hd;omega
inductive LL(K:af)(CS CN CG:aa)(bs qs:List Str)(n:Nat)(vs:List V)(H:Hp)(Q:VK)(E:XK):Prop where
 |mk(v:V)(F:Fm)(st gl:aa)(e:zi)(_:vs=[v,.ref st,.int e.nw,.ref gl])(_:jz bs qs H v F)(_:F.depth<=n)(_:Holds K CS bs qs H st gl e)(_:e.Ok bs qs)(_:yo CN CG (ev e F) Q E H):LL K CS CN CG bs qs n vs H Q E
def HF(K:af)(CS CN CG:aa)(bs qs:List Str)(n:Nat):Sp:=fun vs H Q E=>LL K CS CN CG bs qs n vs H Q E
theorem HG:bN ["formula","state","now","got","first","second","number"] ["formula","state","now","got"] (aL lS):={}
theorem Kl{bs qs:List Str}{H:Hp}{v:V}{F:Fm}(h:jz bs qs H v F):(∃t xs,v=.ref t/\H t=some (.tup xs)/\¬(xs.length:Int)=3/\F.depth<=1/\∀e:zi,∃r,ev e F=.ok r) \/
  ∃t k u w f g,v=.ref t/\F=.two k f g/\H t=some (.tup [.str k,u,w])/\k∈C8/\jz bs qs H u f/\jz bs qs H w g:=by
 cases h with
 |num h1 h2=>exact .inl {_,_,rfl,h1,by show ¬((2:Nat):Int)=3;decide,ax _,fun e=>{_,rfl}}
 |box h1 h2=>exact .inl {_,_,rfl,h1,by show ¬((2:Nat):Int)=3;decide,ax _,fun e=>{_,rfl}}
 |long h1 h2=>exact .inl {_,_,rfl,h1,by show ¬((2:Nat):Int)=3;decide,ax _,fun e=>{_,rfl}}
 |got h1=>exact .inl {_,_,rfl,h1,by show ¬((2:Nat):Int)=3;decide,ax _,fun e=>{_,rfl}}
 |now h1=>exact .inl {_,_,rfl,h1,by show ¬((1:Nat):Int)=3;decide,ax _,fun e=>{_,rfl}}
 |two h1 h2 Z Y=>exact .inr {_,_,_,_,_,_,rfl,rfl,h1,h2,Z,Y}
theorem Km{bs qs:List Str}{n:Nat}(D:Df K mg "worth_of" lS ["formula","state","now","got"] f fd)(DT:Df K mg "number_of_two" gQ ["kind","first","second"] fT fdT)(DD:Df K mg "number_of_division" eB ["kind","first","second"] fD fdD)
  (U:Df K mg "number_of_leaf" gD ["formula","state","now","got"] fL fdL) (T:Fts K mg CN CG) (TM:MdT K mg CM CS) (B:Bl mg) (G:bL P w K mg base (CXo P w) (n+2) f fd ["formula","state","now","got"] (HF K CS CN CG bs qs n)) :
  bL P w K mg base (CXo P w) (n+3) f fd ["formula","state","now","got"] (HF K CS CN CG bs qs (n+1)):=by
 have GT:bL P w K mg base (CXo P w) 2 fT fdT ["kind","first","second"] (LK CN CG):=NW DT DD T;have GL:bL P w K mg base CX0 1 fL fdL ["formula","state","now","got"] (HD K CS bs qs):=Kk U TM B;refine D.F.okX HG (fun vs H Q E h=>?_) (fun bt A outer s H vs Q E hr h=>?_)
 ·obtain⟨v,F,st,V,e,rfl,_⟩:=h;rfl
 obtain⟨v,F,st,V,e,rfl,I,hd,ho,Z,h⟩:=h;have r2:cZ 2 _:=hr.mono (by omega);have r1:cZ 1 _:=hr.mono (by omega);refine⟨_,ah (cH (bQ fc (cb ig (by rfl) B.len cu (aq (pv 0) ag)) av (cq _))
   (ah (bJ (i:=4) HG.nd rfl (Or.inl rfl) (aI G hr rfl D.m D.F.kp D.b .nil (dR.passes fun _ _ _ z=>z) (aq (bY cA (pv 0) av (fun _ _=>rfl)) (aq (pv 1) (aq (pv 2) (aq (pv 3) ag))))))
   (ah (bJ (i:=5) HG.nd rfl (Or.inl rfl) (aI G hr rfl D.m D.F.kp D.b .nil (dR.passes fun _ _ _ z=>z) (aq (bY cA (pv 0) av (fun _ _=>rfl)) (aq (pv 1) (aq (pv 2) (aq (pv 3) ag))))))
   (aA (bJ (i:=6) HG.nd rfl (Or.inl rfl) (aI GT r2 rfl DT.m DT.F.kp DT.b .nil (dR.passes fun _ _ _ z=>z) (aq (bY cA (pv 0) av (fun _ _=>rfl)) (aq (pv 4) (aq (pv 5) ag))))))))
   (aA (bJ (i:=6) HG.nd rfl (Or.inl rfl) (aI GL r1 rfl U.m U.F.kp U.b .nil bC (aq (pv 0) (aq (pv 1) (aq (pv 2) (aq (pv 3) ag))))))))
  (ah (cH (bQ uS (cb FK (by rfl) B.abs boot_abs (aq (pv 6) ag)) (cR sy av av) (cq _)) (aA (jG dR rfl rfl T.mG T.xG (aq bS ag))) bP)
  (aA (bE (pv 6)))),?_⟩
 have Y:Eu 10 15:={by decide,by decide,by decide};have l1:1<=aB:=by decide
 rcases Kl I with⟨t,xs,rfl,ht,hx,O,hv⟩|⟨t,k,u,g,f1,J,rfl,rfl,ht,hk,h1,h2⟩
 ·obtain⟨r,bv⟩:=hv e;refine{_,rfl,t,_,rfl,.inr (SqT.of ht),rfl,_,rfl,gC (fun c=>absurd (zj (kF c)) hx) (fun c=>?_)};refine{_,rfl,_,rfl,_,rfl,_,rfl,.ref t,F,st,V,e,rfl,I,O,ho,fun r' W=>?_};refine{_,rfl,_,rfl,_,_,rfl,rfl,Y,_,_,rfl,rfl,_,rfl,gC (fun c=>?_) (fun c=>?_)}
  ·exact absurd (kF c) (HA (vj Z I W))
  ·rw[W]at h;exact{_,rfl,h}
 ·have d1:f1.depth<=n:=by
   unfold Fm.depth at hd;omega
  have d2:J.depth<=n:=by
   unfold Fm.depth at hd;omega
  refine{_,rfl,t,_,rfl,.inr (SqT.of ht),rfl,_,rfl,gC (fun c=>?_) (fun c=>absurd rfl (kW c))};refine{_,rfl,t,_,_,_,rfl,rfl,SqT.of ht,rfl,_,rfl,_,rfl,_,rfl,u,f1,st,V,e,rfl,h1,d1,ho,Z,?_};unfold ev at h
  cases e1:ev e f1 with
  |nought=>rw[e1]at h;exact h
  |great=>rw[e1]at h;exact h
  |ok a=>
   rw[e1]at h;refine{_,rfl,t,_,_,_,rfl,rfl,SqT.of ht,rfl,_,rfl,_,rfl,_,rfl,g,J,st,V,e,rfl,h2,d2,ho,Z,?_}
   cases e2:ev e J with
   |nought=>rw[e2]at h;exact h
   |great=>rw[e2]at h;exact h
   |ok b=>
    rw[e2]at h;have h:yo CN CG (cap (AA k a b)) Q E H:=h;refine{_,rfl,t,_,_,_,rfl,rfl,SqT.of ht,rfl,_,rfl,_,rfl,k,a,b,rfl,vj Z h1 e1,vj Z h2 e2,?_}
    cases e3:AA k a b with
    |nought=>rw[e3]at h;exact h
    |great=>rw[e3]at h;exact h
    |ok r=>
     rw[e3]at h;have h':yo CN CG (if 10^15<tK r then .great else .ok r) Q E H:=h;refine{_,rfl,_,rfl,_,_,rfl,rfl,Y,_,_,rfl,rfl,_,rfl,gC (fun c=>?_) (fun c=>?_)}
     ·rw[if_pos (show 10^15<tK r from kF c)]at h';exact⟨l1,h'⟩
     ·rw[if_neg (show ¬10^15<tK r from kW c)]at h';exact{_,rfl,h'}
theorem EX(F:Fm):0<F.depth:=by cases F<;>exact qL _
theorem LM{bs qs:List Str}(D:Df K mg "worth_of" lS ["formula","state","now","got"] f fd)(DT:Df K mg "number_of_two" gQ ["kind","first","second"] fT fdT)(Y:Df K mg "number_of_division" eB ["kind","first","second"] fD fdD)
  (V:Df K mg "number_of_leaf" gD ["formula","state","now","got"] fL fdL) (T:Fts K mg CN CG) (W:MdT K mg CM CS) (B:Bl mg):∀n:Nat,bL P w K mg base (CXo P w) (n+2) f fd ["formula","state","now","got"] (HF K CS CN CG bs qs n)
 |0=>by
  have Z:∀vs H Q E,¬HF K CS CN CG bs qs 0 vs H Q E:=fun vs H Q E h=>by
   obtain⟨v,F,st,U,e,_,_,hd,_⟩:=h;have:=EX F;omega
  exact{fun vs H Q E h=>absurd h (Z vs H Q E),fun A outer s H args us vs Q E _ _ _ _ h=>absurd h (Z vs H Q E)}
 |n+1=>Km D DT Y V T W B (LM D DT Y V T W B n)
end
mutual
inductive Dd where
 |put(x:Str)(f:Fm)
 |push(q:Str)(f:Fm)
 |pull(q x:Str)(o:Ds)
 |draw(x:Str)(f:Fm)
 |send(to:Int)(sg:Str)(sp:Fm)(rk:Int)(a b:Fm)
 |ife(f:Fm)(t e:Ds)
 |fin
inductive Ds where
 |nil
 |cons(d:Dd)(r:Ds)
end
inductive Flt where
 |nought
 |great
 |full
 |dry
 |span
 |late
structure Ev where
 t:Int
 r:Int
 fr:Int
 c:Int
 to:Int
 sg:Str
 a:Int
 b:Int
structure Wk where
 bx:List (Str×Int)
 qu:List (Str×List Int)
 dr:Nat
 se:Int
 wr:List Str
 out:List Ev
 en:Bool
 rk:List Fm
 qn:List Str
def Wk.len(w:Wk):Nat:=w.out.length+w.rk.length
def wY(ps:List (Str×Int))(x:Str):Int:=(ps.lookup x).getD 0
def jR(ps:List (Str×List Int))(x:Str):List Int:=(ps.lookup x).getD []
def pF{Z:Type}(ps:List (Str×Z))(x:Str)(n:Z):List (Str×Z):=ps.map fun p=>if p.1=x then (p.1,n) else p
def nX(xs:List Str)(x:Str):List Str:=if x∈xs then xs else xs++[x]
def AB(h:Ev)(w:Wk):zi:={wY w.bx,fun q=>(jR w.qu q).length,h.a,h.b,h.t}
def rck(h:Ev)(w:Wk)(f:Fm)(k:Wk->Int->Except Flt Wk):Except Flt Wk:=match ev (AB h w) f with
 |.ok n=>k {w with rk:=w.rk++[f]} n
 |.nought=>.error .nought
 |.great=>.error .great
def HH(w:Wk)(x:Str)(n:Int):Wk:={w with bx:=pF w.bx x n,wr:=nX w.wr x}
def sendW(h:Ev)(w:Wk)(to:Int)(sg:Str)(rk t a b:Int):Wk:={w with se:=w.se+1,out:=w.out++[⟨t,rk,h.to,w.se,to,sg,a,b⟩]}
mutual
def doD(h:Ev)(ds:List Int):Dd->Wk->Except Flt Wk
 |.put x f,w=>rck h w f fun w n=>.ok (HH w x n)
 |.push q f,w=>rck h w f fun w n=>if 30<=(jR w.qu q).length then .error .full else .ok {w with qu:=pF w.qu q (jR w.qu q++[n]),wr:=nX w.wr q,qn:=nX w.qn q}
 |.pull q x o,w=>match jR w.qu q with
  | []=>doS h ds o {w with qn:=nX w.qn q}
  |n::ns=>.ok {w with qu:=pF w.qu q ns,bx:=pF w.bx x n,wr:=nX (nX w.wr x) q,qn:=nX w.qn q}
 |.draw x f,w=>rck h w f fun w n=>if n<1 then .error .nought else if ds=[] then .error .dry else .ok (HH {w with dr:=w.dr+1} x (ds.getD (w.dr%ds.length) 0%n))
 |.send to sg sp rk a b,w=>rck h w sp fun w n=>if n<1\/10^6<n then .error .span else rck h w a fun w x=>rck h w b fun w y=>if 10^12<h.t+n then .error .late else .ok (sendW h w to sg rk (h.t+n) x y)
 |.ife f t e,w=>rck h w f fun w n=>if n=0 then doS h ds e w else doS h ds t w
 |.fin,w=>.ok {w with en:=true}
def doS(h:Ev)(ds:List Int):Ds->Wk->Except Flt Wk
 |.nil,w=>.ok w
 |.cons d r,w=>match doD h ds d w with
  |.ok Z=>doS h ds r Z
  |.error e=>.error e
end
mutual
def Dd.deep:Dd->Nat
 |.pull _ _ o=>o.deep+1
 |.ife _ t e=>max t.deep e.deep+1
 |_=>0
def Ds.deep:Ds->Nat
 |.nil=>0
 |.cons d r=>max d.deep r.deep
end
def m7(H:Hp)(R:List V->Prop)(v:V):Prop:=∃l vs,v=.ref l/\H l=some (.lst vs)/\vs.length<1000/\R vs
def FmI(bs qs:List Str)(H:Hp)(v:V)(f:Fm):Prop:=jz bs qs H v f/\f.depth<=15
mutual
def eO(bs qs:List Str)(H:Hp):Dd->V->Prop
 |.put x f,v=>∃t u,v=.ref t/\H t=some (.tup [.str "put",.str x,u])/\x∈bs/\FmI bs qs H u f
 |.push q f,v=>∃t u,v=.ref t/\H t=some (.tup [.str "push",.str q,u])/\q∈qs/\FmI bs qs H u f
 |.pull q x o,v=>∃t u,v=.ref t/\H t=some (.tup [.str "pull",.str q,.str x,u])/\q∈qs/\x∈bs/\m7 H (fK bs qs H o) u
 |.draw x f,v=>∃t u,v=.ref t/\H t=some (.tup [.str "draw",.str x,u])/\x∈bs/\FmI bs qs H u f
 |.send to sg sp rk a b,v=>∃t u u1 u2,v=.ref t/\H t=some (.tup [.str "send",.int to,.str sg,u,.int rk,u1,u2])/\FmI bs qs H u sp/\FmI bs qs H u1 a/\FmI bs qs H u2 b
 |.ife f x y,v=>∃t u u1 u2,v=.ref t/\H t=some (.tup [.str "if",u,u1,u2])/\FmI bs qs H u f/\m7 H (fK bs qs H x) u1/\m7 H (fK bs qs H y) u2
 |.fin,v=>∃t,v=.ref t/\H t=some (.tup [.str "end"])
def fK(bs qs:List Str)(H:Hp):Ds->List V->Prop
 |.nil,vs=>vs=[]
 |.cons d r,vs=>∃v Z,vs=v::Z/\eO bs qs H d v/\fK bs qs H r Z
end
theorem m7.same{H H':Hp}(s:bh H H'){R Z:List V->Prop}(f:∀vs,R vs->Z vs){v:V}(h:m7 H R v):m7 H' Z v:=by
 obtain⟨l,vs,e,h1,h2,Y⟩:=h;exact{l,vs,e,s _ _ h1,h2,f vs Y}
theorem FmI.same{bs qs:List Str}{H H':Hp}(s:bh H H'){v:V}{f:Fm}(h:FmI bs qs H v f):FmI bs qs H' v f:={h.1.same s,h.2}
mutual
theorem eO.same{bs qs:List Str}{H H':Hp}(s:bh H H'):∀(d:Dd) (v:V),eO bs qs H d v->eO bs qs H' d v
 |.put x f,v,h=>by
  obtain⟨t,u,e,h1,h2,Z⟩:=(by simpa only[eO] using h);simp only[eO];exact{t,u,e,s _ _ h1,h2,Z.same s}
 |.push q f,v,h=>by
  obtain⟨t,u,e,h1,h2,Z⟩:=(by simpa only[eO] using h);simp only[eO];exact{t,u,e,s _ _ h1,h2,Z.same s}
 |.pull q x o,v,h=>by
  obtain⟨t,u,e,h1,h2,Z,Y⟩:=(by simpa only[eO] using h);simp only[eO];exact{t,u,e,s _ _ h1,h2,Z,Y.same s (fK.same s o)}
 |.draw x f,v,h=>by
  obtain⟨t,u,e,h1,h2,Z⟩:=(by simpa only[eO] using h);simp only[eO];exact{t,u,e,s _ _ h1,h2,Z.same s}
 |.send to sg sp rk a b,v,h=>by
  obtain⟨t,u,u1,u2,e,h1,h2,Z,Y⟩:=(by simpa only[eO] using h);simp only[eO];exact{t,u,u1,u2,e,s _ _ h1,h2.same s,Z.same s,Y.same s}
 |.ife f x y,v,h=>by
  obtain⟨t,u,u1,u2,e,h1,h2,Z,Y⟩:=(by simpa only[eO] using h);simp only[eO];exact{t,u,u1,u2,e,s _ _ h1,h2.same s,Z.same s (fK.same s x),Y.same s (fK.same s y)}
 |.fin,v,h=>by
  obtain⟨t,e,h1⟩:=(by simpa only[eO] using h);simp only[eO];exact{t,e,s _ _ h1}
theorem fK.same{bs qs:List Str}{H H':Hp}(s:bh H H'):∀(d:Ds) (vs:List V),fK bs qs H d vs->fK bs qs H' d vs
 |.nil,vs,h=>by
  simpa only[fK] using h
 |.cons d r,vs,h=>by
  obtain⟨v,Z,e,h1,h2⟩:=(by simpa only[fK] using h);simp only[fK];exact{v,Z,e,eO.same s d v h1,fK.same s r Z h2}
end
def ib(H:Hp)(v:V)(e:Ev):Prop:=∃t k,v=.ref t/\H t=some (.tup [.ref k,.int e.to,.str e.sg,.int e.a,.int e.b])/\H k=some (.tup [.int e.t,.int e.r,.int e.fr,.int e.c])
theorem ib.same{H H':Hp}(s:bh H H'){v:V}{e:Ev}(h:ib H v e):ib H' v e:=by
 obtain⟨t,k,e1,h1,h2⟩:=h;exact{t,k,e1,s _ _ h1,s _ _ h2}
def boK(ps:List (Str×Int)):List (Key×V):=ps.map fun p=>((Sum.inr p.1:Key),V.int p.2)
def quK(ps:List (Str×aa)):List (Key×V):=ps.map fun p=>((Sum.inr p.1:Key),V.ref p.2)
def wrK(xs:List Str):List (Key×V):=xs.map fun x=>((Sum.inr x:Key),V.bl true)
theorem tM{Z:Type}(g:Z->V)(x:Str):∀ps:List (Str×Z),jQ (ps.map fun p=>((Sum.inr p.1:Key),g p.2)) (Sum.inr x)=(ps.lookup x).map g
 | []=>rfl
 |p::ps=>by
  rw[cg]
  by_cases c:p.1=x
  ·rw[qq (by rw[c])];obtain⟨a,b⟩:=p;dsimp only at c;subst c;rw[bT];rfl
  ·rw[qv (fun z=>c (mK z)),tM g x ps];obtain⟨a,b⟩:=p;dsimp only at c;rw[cG];have:(x==a)=false:=beq_eq_false_iff_ne.mpr fun z=>c z.symm;rw[this]
theorem Kn{Z:Type}(g:Z->V)(x:Str)(n:Z){ps:List (Str×Z)}(h:(ps.lookup x).isSome=true):iW (ps.map fun p=>((Sum.inr p.1:Key),g p.2)) (Sum.inr x) (g n)=(pF ps x n).map fun p=>((Sum.inr p.1:Key),g p.2):=by
 unfold iW;rw[kC,tM,nG,h,if_pos rfl];unfold pF;rw[dA,dA];apply ie;intro p _
 by_cases c:p.1=x
 ·simp only[rL,c,if_true]
 ·simp only[rL,if_neg c,if_neg (fun z=>c (mK z):¬(Sum.inr p.1:Key)=Sum.inr x)]
theorem Da(xs:List Str)(x:Str):jQ (wrK xs) (Sum.inr x)=if x∈xs then some (.bl true) else none:=by
 induction xs with
 |nil=>rfl
 |cons y xs Z=>
  unfold wrK at Z |-;rw[cg]
  by_cases c:y=x
  ·rw[qq (by rw[c]),if_pos (by rw[c];exact aC)]
  ·rw[qv (fun z=>c (mK z)),Z]
   by_cases m:x∈xs
   ·rw[if_pos m,if_pos (ak _ m)]
   ·rw[if_neg m,if_neg];intro z
    rcases ar.mp z with z|z
    ·exact c z.symm
    ·exact m z
theorem Dc(xs:List Str)(x:Str):iW (wrK xs) (Sum.inr x) (.bl true)=wrK (nX xs x):=by
 unfold iW;rw[kC,Da]
 by_cases m:x∈xs
 ·rw[if_pos m];unfold nX;rw[if_pos m];show (if true=true then _ else _)=_;rw[if_pos rfl];unfold wrK;rw[dA];apply ie;intro y _
  by_cases c:y=x
  ·simp only[rL,c,if_true]
  ·simp only[rL,if_neg (fun z=>c (mK z):¬(Sum.inr y:Key)=Sum.inr x)]
 ·rw[if_neg m];unfold nX;rw[if_neg m];show (if false=true then _ else _)=_;rw[if_neg (by decide)];unfold wrK;rw[cw];rfl
theorem yp{Z:Type}(ps:List (Str×Z))(x:Str)(n:Z):(pF ps x n).map (·.1)=ps.map (·.1):=by
 unfold pF;rw[dA];apply ie;intro p _;show (if p.1=x then (p.1,n) else p).1=p.1
 split<;>rfl
theorem oH{Z:Type}{x:Str}:∀{ps:List (Str×Z)},x∈ps.map (·.1)->∃a,ps.lookup x=some a/\(x,a)∈ps
 | [],h=>by cases h
 |p::ps,h=>by
  obtain⟨k,a⟩:=p
  by_cases c:x=k
  ·subst c;exact⟨a,bT,aC⟩
  ·have h':x∈ps.map (·.1):=by
    rcases ar.mp h with z|z
    ·exact absurd z c
    ·exact z
   obtain⟨b,h1,h2⟩:=oH h';refine{b,?_,ak _ h2};rw[cG,beq_eq_false_iff_ne.mpr c];exact h1
theorem AC{Z:Type}{x:Str}{n:Z}{ps:List (Str×Z)}{q:Str×Z}(h:q∈pF ps x n):q∈ps\/q.2=n:=by
 obtain⟨p,hp,e⟩:=cD.mp h
 by_cases c:p.1=x
 ·rw[if_pos c]at e;subst e;exact .inr rfl
 ·rw[if_neg c]at e;subst e;exact .inl hp
structure DT(K:af)(mg:Str->Option ae)(CD:aa):Prop where
 cl:Cls K CD
 nM:eM K CD "machine"
 nH:eM K CD "happening"
 nS:eM K CD "state"
 nW:eM K CD "written"
 nO:eM K CD "outgoing"
 nE:eM K CD "ends"
 nR:eM K CD "reckoned"
 nQ:eM K CD "queued"
 mD:mg "Doing"=some (.ref CD)
def dF(m h:V)(st wd od:aa)(en:Bool)(rd ud:aa):List (Str×V):=[("machine",m),("happening",h),("state",.ref st),("written",.ref wd),("outgoing",.ref od),("ends",.bl en),("reckoned",.ref rd),("queued",.ref ud)]
abbrev BX:List Str:=["machine","happening","state","written","outgoing","ends","reckoned","queued"]
theorem NX(m h:V)(st wd od:aa)(en:Bool)(rd ud:aa):(dF m h st wd od en rd ud).lookup ("machine":Str)=some m:=bT
theorem dX{k x:Str}{v:V}{r:List (Str×V)}(h:(x==k)=false):((k,v)::r).lookup x=r.lookup x:=by rw[cG,h]
theorem Ko(m h:V)(st wd od:aa)(en:Bool)(rd ud:aa):(dF m h st wd od en rd ud).lookup ("happening":Str)=some h:=by
 unfold dF;rw[dX (by decide +kernel),bT]
theorem xQ(m h:V)(st wd od:aa)(en:Bool)(rd ud:aa):(dF m h st wd od en rd ud).lookup ("state":Str)=some (.ref st):=by
 unfold dF;rw[dX (by decide +kernel),dX (by decide +kernel),bT]
theorem HI(m h:V)(st wd od:aa)(en:Bool)(rd ud:aa):(dF m h st wd od en rd ud).lookup ("written":Str)=some (.ref wd):=by
 unfold dF;rw[dX (by decide +kernel),dX (by decide +kernel),dX (by decide +kernel),bT]
theorem dF_o(m h:V)(st wd od:aa)(en:Bool)(rd ud:aa):(dF m h st wd od en rd ud).lookup ("outgoing":Str)=some (.ref od):=by
 unfold dF;rw[dX (by decide +kernel),dX (by decide +kernel),dX (by decide +kernel),dX (by decide +kernel),bT]
theorem dF_e(m h:V)(st wd od:aa)(en:Bool)(rd ud:aa):(dF m h st wd od en rd ud).lookup ("ends":Str)=some (.bl en):=by
 unfold dF;rw[dX (by decide +kernel),dX (by decide +kernel),dX (by decide +kernel),dX (by decide +kernel),dX (by decide +kernel),bT]
theorem dF_r(m h:V)(st wd od:aa)(en:Bool)(rd ud:aa):(dF m h st wd od en rd ud).lookup ("reckoned":Str)=some (.ref rd):=by
 unfold dF;rw[dX (by decide +kernel),dX (by decide +kernel),dX (by decide +kernel),dX (by decide +kernel),dX (by decide +kernel),dX (by decide +kernel),bT]
theorem dF_u(m h:V)(st wd od:aa)(en:Bool)(rd ud:aa):(dF m h st wd od en rd ud).lookup ("queued":Str)=some (.ref ud):=by
 unfold dF;rw[dX (by decide +kernel),dX (by decide +kernel),dX (by decide +kernel),dX (by decide +kernel),dX (by decide +kernel),dX (by decide +kernel),dX (by decide +kernel),bT]
theorem pV(m h:V)(st wd od:aa)(en:Bool)(rd ud:aa){x:Str}(hx:BX.contains x=false):(dF m h st wd od en rd ud).lookup x=none:=by
 have z:∀k∈BX,(x==k)=false:=fun k hk=>beq_eq_false_iff_ne.mpr fun e=>by
  rw[e,kH.mpr hk]at hx
  cases hx
 unfold dF;rw[dX (z _ (by simp)),dX (z _ (by simp)),dX (z _ (by simp)),dX (z _ (by simp)),dX (z _ (by simp)),dX (z _ (by simp)),dX (z _ (by simp)),dX (z _ (by simp))];rfl
theorem sne{a b:Str}(h:(a==b)=false):¬a=b:=fun e=>by
 rw[e,beq_self_eq_true]at h
 cases h
theorem NY(m h:V)(st wd od:aa)(en:Bool)(rd ud:aa):cJ "queued" (.ref ud) (cJ "reckoned" (.ref rd) (cJ "ends" (.bl en) (cJ "outgoing" (.ref od) (cJ "written" (.ref wd) (cJ "state" (.ref st) (cJ "happening" h (cJ "machine" m [])))))))=dF m h st wd od en rd ud:=by
 simp only[dF,cJ,if_neg (sne (a:="machine") (b:="happening") (by decide +kernel)),if_neg (sne (a:="machine") (b:="state") (by decide +kernel)),if_neg (sne (a:="machine") (b:="written") (by decide +kernel)),if_neg (sne (a:="machine") (b:="outgoing") (by decide +kernel)),if_neg (sne (a:="machine") (b:="ends") (by decide +kernel)),if_neg (sne (a:="machine") (b:="reckoned") (by decide +kernel)),if_neg (sne (a:="machine") (b:="queued") (by decide +kernel)),if_neg (sne (a:="happening") (b:="state") (by decide +kernel)),if_neg (sne (a:="happening") (b:="written") (by decide +kernel)),if_neg (sne (a:="happening") (b:="outgoing") (by decide +kernel)),if_neg (sne (a:="happening") (b:="ends") (by decide +kernel)),if_neg (sne (a:="happening") (b:="reckoned") (by decide +kernel)),if_neg (sne (a:="happening") (b:="queued") (by decide +kernel)),if_neg (sne (a:="state") (b:="written") (by decide +kernel)),if_neg (sne (a:="state") (b:="outgoing") (by decide +kernel)),if_neg (sne (a:="state") (b:="ends") (by decide +kernel)),if_neg (sne (a:="state") (b:="reckoned") (by decide +kernel)),if_neg (sne (a:="state") (b:="queued") (by decide +kernel)),if_neg (sne (a:="written") (b:="outgoing") (by decide +kernel)),if_neg (sne (a:="written") (b:="ends") (by decide +kernel)),if_neg (sne (a:="written") (b:="reckoned") (by decide +kernel)),if_neg (sne (a:="written") (b:="queued") (by decide +kernel)),if_neg (sne (a:="outgoing") (b:="ends") (by decide +kernel)),if_neg (sne (a:="outgoing") (b:="reckoned") (by decide +kernel)),if_neg (sne (a:="outgoing") (b:="queued") (by decide +kernel)),if_neg (sne (a:="ends") (b:="reckoned") (by decide +kernel)),if_neg (sne (a:="ends") (b:="queued") (by decide +kernel)),if_neg (sne (a:="reckoned") (b:="queued") (by decide +kernel))]
theorem NZ(m h:V)(st wd od:aa)(en Z:Bool)(rd ud:aa):cJ "ends" (.bl Z) (dF m h st wd od en rd ud)=dF m h st wd od Z rd ud:=by
 simp only[dF,cJ,if_neg (sne (a:="machine") (b:="ends") (by decide +kernel)),if_neg (sne (a:="happening") (b:="ends") (by decide +kernel)),if_neg (sne (a:="state") (b:="ends") (by decide +kernel)),if_neg (sne (a:="written") (b:="ends") (by decide +kernel)),if_neg (sne (a:="outgoing") (b:="ends") (by decide +kernel)),if_true]
theorem kf(b q d e:V):pE b q d e=([("boxes",b),("queues",q),("drawn",d),("sent",e)]:List (Str×V)):=by
 simp only[pE,cJ,if_neg (sne (a:="boxes") (b:="queues") (by decide +kernel)),if_neg (sne (a:="boxes") (b:="drawn") (by decide +kernel)),if_neg (sne (a:="boxes") (b:="sent") (by decide +kernel)),if_neg (sne (a:="queues") (b:="drawn") (by decide +kernel)),if_neg (sne (a:="queues") (b:="sent") (by decide +kernel)),if_neg (sne (a:="drawn") (b:="sent") (by decide +kernel))]
theorem N0(b q d e d':V):cJ "drawn" d' (pE b q d e)=pE b q d' e:=by
 rw[kf,kf];simp only[cJ,if_neg (sne (a:="boxes") (b:="drawn") (by decide +kernel)),if_neg (sne (a:="queues") (b:="drawn") (by decide +kernel)),if_true]
theorem N1(b q d e Z:V):cJ "sent" Z (pE b q d e)=pE b q d Z:=by
 rw[kf,kf];simp only[cJ,if_neg (sne (a:="boxes") (b:="sent") (by decide +kernel)),if_neg (sne (a:="queues") (b:="sent") (by decide +kernel)),if_neg (sne (a:="drawn") (b:="sent") (by decide +kernel)),if_true]
theorem Kq(b q d e:V):(pE b q d e).lookup ("boxes":Str)=some b:=by rw[kf,bT]
theorem Kr(b q d e:V):(pE b q d e).lookup ("queues":Str)=some q:=by rw[kf,dX (by decide +kernel),bT]
theorem N2(b q d e:V):(pE b q d e).lookup ("drawn":Str)=some d:=by rw[kf,dX (by decide +kernel),dX (by decide +kernel),bT]
theorem N3(b q d e:V):(pE b q d e).lookup ("sent":Str)=some e:=by rw[kf,dX (by decide +kernel),dX (by decide +kernel),dX (by decide +kernel),bT]
theorem st_no(b q d e:V){x:Str}(hx:(["boxes","queues","drawn","sent"]:List Str).contains x=false):(pE b q d e).lookup x=none:=by
 have z:∀k∈(["boxes","queues","drawn","sent"]:List Str),(x==k)=false:=fun k hk=>beq_eq_false_iff_ne.mpr fun e=>by
  rw[e,kH.mpr hk]at hx
  cases hx
 rw[kf,dX (z _ (by simp)),dX (z _ (by simp)),dX (z _ (by simp)),dX (z _ (by simp))];rfl
theorem HJ(b q d e:V):(pE b q d e).length<1000:=by
 rw[kf];show 4<1000;decide
theorem N4(m h:V)(st wd od:aa)(en:Bool)(rd ud:aa):(dF m h st wd od en rd ud).length<1000:=by show 8<1000;decide
structure Lay where
 d:aa
 dx:aa
 st:aa
 dxs:aa
 bd:aa
 qd:aa
 wd:aa
 od:aa
 rd:aa
 ud:aa
 m:V
 hv:V
 qa:List (Str×aa)
def Lay.all(L:Lay):List aa:=L.d::L.st::L.bd::L.qd::L.wd::L.od::L.rd::L.ud::L.qa.map (·.2)
def gE(G:Hp):List (Str×aa)->List (Str×List Int)->Prop:=aK fun p q=>p.1=q.1/\G p.2=some (.lst (q.2.map V.int))
structure qM(bs qs:List Str)(w:Wk):Prop where
 kb:w.bx.map (·.1)=bs
 kq:w.qu.map (·.1)=qs
 nb:bs.Nodup
 nq:qs.Nodup
 wb:∀p∈w.bx,Wo p.2
 wq:∀p∈w.qu,p.2.length<=30/\∀n∈p.2,Wo n
 nw:w.wr.Nodup
 sw:∀x∈w.wr,x∈bs++qs
 nu:w.qn.Nodup
 su:∀x∈w.qn,x∈bs++qs
 wo:∀e∈w.out,Wo e.a/\Wo e.b
 fw:(bs++qs).length<100
structure Dg(CD CS:aa)(bs qs:List Str)(H0 G:Hp)(L:Lay)(h:Ev)(ds:List Int)(w:Wk):Prop where
 sm:bh H0 G
 hd:G L.d=some (.ins CD L.dx (dF L.m L.hv L.st L.wd L.od w.en L.rd L.ud))
 hst:G L.st=some (.ins CS L.dxs (pE (.ref L.bd) (.ref L.qd) (.int w.dr) (.int w.se)))
 hb:G L.bd=some (.dK (boK w.bx))
 hq:G L.qd=some (.dK (quK L.qa))
 hl:gE G L.qa w.qu
 hw:G L.wd=some (.dK (wrK w.wr))
 ho:∃vs,G L.od=some (.lst vs)/\aK (ib G) vs w.out
 hr:∃rs,G L.rd=some (.lst rs)/\aK (FmI bs qs H0) rs w.rk
 hu:G L.ud=some (.dK (wrK w.qn))
 hh:ib H0 L.hv h
 hm:∃t x1 x2 x3 x4 dl,L.m=.ref t/\H0 t=some (.tup [x1,x2,x3,.ref dl,x4])/\H0 dl=some (.lst (ds.map V.int))
 nd:L.all.Nodup
 fr:∀a∈L.all,H0 a=none
 ok:qM bs qs w
 wt:Wo h.t
 wa:Wo h.a
 wb:Wo h.b
section
variable{CD CS:aa}{bs qs:List Str}{H0 G G':Hp}{L:Lay}{h:Ev}{ds:List Int}{w:Wk}
theorem gE.keep(k:∀a u,G a=some u->a∈L.qa.map (·.2)->G' a=some u){qa:List (Str×aa)}{qu:List (Str×List Int)}(sub:∀p∈qa,p∈L.qa)(q:gE G qa qu):gE G' qa qu:=by
 unfold gE at q |-
 induction q with
 |nil=>exact .nil
 |cons a _ Z=>exact .cons {a.1,k _ _ a.2 (cD.mpr {_,sub _ aC,rfl})} (Z fun p hp=>sub p (ak _ hp))
theorem Paired.mono{Y Z:Type}{R S:Y->Z->Prop}(f:∀a b,R a b->S a b){xs:List Y}{ys:List Z}(r:aK R xs ys):aK S xs ys:=L2.Paired.imp' f r
theorem Dg.same(g:Dg CD CS bs qs H0 G L h ds w)(s:bh G G'):Dg CD CS bs qs H0 G' L h ds w:=by
 obtain⟨vs,Y,Z⟩:=g.ho;obtain⟨rs,r1,r2⟩:=g.hr;exact{g.sm.trans s,s _ _ g.hd,s _ _ g.hst,s _ _ g.hb,s _ _ g.hq,g.hl.keep (L:=L) (fun a u e _=>s _ _ e) (fun _ hp=>hp),s _ _ g.hw,{vs,s _ _ Y,Paired.mono (fun _ _ z=>z.same s) Z},{rs,s _ _ r1,r2},s _ _ g.hu,g.hh,g.hm,g.nd,g.fr,g.ok,g.wt,g.wa,g.wb}
structure Lay.Ne(L:Lay):Prop where
 ds:L.d≠L.st
 db:L.d≠L.bd
 dq:L.d≠L.qd
 dw:L.d≠L.wd
 do_:L.d≠L.od
 dr:L.d≠L.rd
 du:L.d≠L.ud
 dl:∀a∈L.qa.map (·.2),L.d≠a
 sb:L.st≠L.bd
 sq:L.st≠L.qd
 sw:L.st≠L.wd
 so:L.st≠L.od
 sr:L.st≠L.rd
 su:L.st≠L.ud
 sl:∀a∈L.qa.map (·.2),L.st≠a
 bq:L.bd≠L.qd
 bw:L.bd≠L.wd
 bo:L.bd≠L.od
 br:L.bd≠L.rd
 bu:L.bd≠L.ud
 bl:∀a∈L.qa.map (·.2),L.bd≠a
 qw:L.qd≠L.wd
 qo:L.qd≠L.od
 qr:L.qd≠L.rd
 qu:L.qd≠L.ud
 ql:∀a∈L.qa.map (·.2),L.qd≠a
 wo:L.wd≠L.od
 wr:L.wd≠L.rd
 wu:L.wd≠L.ud
 wl:∀a∈L.qa.map (·.2),L.wd≠a
 or:L.od≠L.rd
 ou:L.od≠L.ud
 ol:∀a∈L.qa.map (·.2),L.od≠a
 ru:L.rd≠L.ud
 rl:∀a∈L.qa.map (·.2),L.rd≠a
 ul:∀a∈L.qa.map (·.2),L.ud≠a
 ll:(L.qa.map (·.2)).Nodup
theorem Lay.ne(nd:L.all.Nodup):L.Ne:=by
 unfold Lay.all at nd;have cut:∀{a:aa} {xs:List aa},(a::xs).Nodup->(∀b∈xs,a≠b)/\xs.Nodup:=fun {a xs} z=>by
  obtain⟨Y,Z⟩:=cM.mp z;exact{fun b hb e=>Y (by rw[e];exact hb),Z}
 obtain⟨a1,nd⟩:=cut nd;obtain⟨a2,nd⟩:=cut nd;obtain⟨a3,nd⟩:=cut nd;obtain⟨a4,nd⟩:=cut nd;obtain⟨a5,nd⟩:=cut nd;obtain⟨a6,nd⟩:=cut nd;obtain⟨a7,nd⟩:=cut nd;obtain⟨a8,nd⟩:=cut nd;have i1:∀{b:aa} {xs:List aa},b∈b::xs:=aC;have i2:∀{a b:aa} {xs:List aa},b∈xs->b∈a::xs:=fun z=>ak _ z;exact{a1 _ i1,a1 _ (i2 i1),a1 _ (i2 (i2 i1)),a1 _ (i2 (i2 (i2 i1))),a1 _ (i2 (i2 (i2 (i2 i1)))),a1 _ (i2 (i2 (i2 (i2 (i2 i1))))),a1 _ (i2 (i2 (i2 (i2 (i2 (i2 i1)))))),fun a ha=>a1 _ (i2 (i2 (i2 (i2 (i2 (i2 (i2 ha))))))),a2 _ i1,a2 _ (i2 i1),a2 _ (i2 (i2 i1)),a2 _ (i2 (i2 (i2 i1))),a2 _ (i2 (i2 (i2 (i2 i1)))),a2 _ (i2 (i2 (i2 (i2 (i2 i1))))),fun a ha=>a2 _ (i2 (i2 (i2 (i2 (i2 (i2 ha)))))),a3 _ i1,a3 _ (i2 i1),a3 _ (i2 (i2 i1)),a3 _ (i2 (i2 (i2 i1))),a3 _ (i2 (i2 (i2 (i2 i1)))),fun a ha=>a3 _ (i2 (i2 (i2 (i2 (i2 ha))))),a4 _ i1,a4 _ (i2 i1),a4 _ (i2 (i2 i1)),a4 _ (i2 (i2 (i2 i1))),fun a ha=>a4 _ (i2 (i2 (i2 (i2 ha)))),a5 _ i1,a5 _ (i2 i1),a5 _ (i2 (i2 i1)),fun a ha=>a5 _ (i2 (i2 (i2 ha))),a6 _ i1,a6 _ (i2 i1),fun a ha=>a6 _ (i2 (i2 ha)),a7 _ i1,fun a ha=>a7 _ (i2 ha),fun a ha=>a8 _ ha,nd}
theorem m8{a:aa}{o:HO}(nt:∀xs,G a≠some (.tup xs)){vs:List V}{es:List Ev}(r:aK (ib G) vs es):aK (ib (upd G a o)) vs es:=
 Paired.mono (fun v e z=>by
  obtain⟨t,k,e1,h1,h2⟩:=z;refine{t,k,e1,?_,?_}
  ·rw[aN fun y=>nt _ (by rw[<- y];exact h1)];exact h1
  ·rw[aN fun y=>nt _ (by rw[<- y];exact h2)];exact h2) r
theorem Dg.sm_upd(g:Dg CD CS bs qs H0 G L h ds w){a:aa}(ha:a∈L.all)(o:HO):bh H0 (upd G a o):=fun b u e=>by
 rw[aN (aw e (g.fr a ha))];exact g.sm _ _ e
theorem in_d:L.d∈L.all:=aC
theorem LN:L.st∈L.all:=ak _ aC
theorem LO:L.bd∈L.all:=ak _ (ak _ aC)
theorem in_qd:L.qd∈L.all:=ak _ (ak _ (ak _ aC))
theorem in_wd:L.wd∈L.all:=ak _ (ak _ (ak _ (ak _ aC)))
theorem LP:L.od∈L.all:=ak _ (ak _ (ak _ (ak _ (ak _ aC))))
theorem in_rd:L.rd∈L.all:=ak _ (ak _ (ak _ (ak _ (ak _ (ak _ aC)))))
theorem in_ud:L.ud∈L.all:=ak _ (ak _ (ak _ (ak _ (ak _ (ak _ (ak _ aC))))))
theorem in_l{a:aa}(h:a∈L.qa.map (·.2)):a∈L.all:=ak _ (ak _ (ak _ (ak _ (ak _ (ak _ (ak _ (ak _ h)))))))
theorem aW{o o':HO}{a b:aa}(e:G a=some o)(n:a≠b):upd G b o' a=some o:=by rw[aN n];exact e
theorem m9{o:HO}{a:aa}(e:G a=some o)(n:∀xs,o≠.tup xs):∀xs,G a≠some (.tup xs):=fun xs z=>by
 rw[e]at z
 cases z;exact n xs rfl
theorem Dg.box(g:Dg CD CS bs qs H0 G L h ds w){x:Str}{n:Int}(W:Wo n):Dg CD CS bs qs H0 (upd G L.bd (.dK (boK (pF w.bx x n)))) L h ds {w with bx:=pF w.bx x n}:=by
 have N:=Lay.ne g.nd;obtain⟨vs,Y,Z⟩:=g.ho;obtain⟨rs,r1,r2⟩:=g.hr;refine{g.sm_upd LO _,aW g.hd N.db,aW g.hst N.sb,aj,aW g.hq N.bq.symm,g.hl.keep (L:=L) (fun a u e m=>aW e (N.bl a m).symm) (fun _ hp=>hp),aW g.hw N.bw.symm,{vs,aW Y N.bo.symm,m8 (m9 g.hb (fun _ z=>by cases z)) Z},{rs,aW r1 N.br.symm,r2},aW g.hu N.bu.symm,g.hh,g.hm,g.nd,g.fr,?_,g.wt,g.wa,g.wb};obtain⟨kb,kq,nb,nq,wb,wq,nw,sw,nu,su,wo,fw⟩:=g.ok;refine{(yp _ _ _).trans kb,kq,nb,nq,fun p hp=>?_,wq,nw,sw,nu,su,wo,fw}
 rcases AC hp with z|z
 ·exact wb p z
 ·rw[z];exact W
theorem De{xs:List Str}{x:Str}(h:xs.Nodup):(nX xs x).Nodup:=by
 unfold nX
 by_cases c:x∈xs
 ·rw[if_pos c];exact h
 ·rw[if_neg c];refine iJ.mpr {h,by simp,fun a ha b hb=>?_};rw[aD.mp hb];exact fun z=>c (by rw[<- z];exact ha)
theorem AD{xs:List Str}{x y:Str}(h:y∈nX xs x):y∈xs\/y=x:=by
 unfold nX at h
 by_cases c:x∈xs
 ·rw[if_pos c]at h;exact .inl h
 ·rw[if_neg c]at h
  rcases bZ.mp h with z|z
  ·exact .inl z
  ·exact .inr (aD.mp z)
theorem HK{xs:List Str}:∀{ys:List Str},xs.Nodup->(∀x∈xs,x∈ys)->xs.length<=ys.length:=by
 induction xs with
 |nil=>intro ys _ _;exact cm _
 |cons x xs Y=>
  intro ys nd s;obtain⟨n1,n2⟩:=cM.mp nd;have hx:x∈ys:=s x aC;have:=Y (ys:=ys.erase x) n2 fun z Z=>(List.mem_erase_of_ne (fun e=>n1 (by rw[<- e];exact Z))).mpr (s z (ak _ Z));rw[List.length_erase_of_mem hx]at this;have:=List.length_pos_of_mem hx;rw[aS];omega
theorem qM.few(k:qM bs qs w):w.wr.length<100:=jF (HK k.nw k.sw) k.fw
theorem qM.few2(k:qM bs qs w):w.qn.length<100:=jF (HK k.nu k.su) k.fw
theorem Dh(xs:List Str):(wrK xs).length=xs.length:=au _
theorem d9:1000<aB:=by decide
theorem Dg.wrote(g:Dg CD CS bs qs H0 G L h ds w){x:Str}(hx:x∈bs++qs):Dg CD CS bs qs H0 (upd G L.wd (.dK (wrK (nX w.wr x)))) L h ds {w with wr:=nX w.wr x}:=by
 have N:=Lay.ne g.nd;obtain⟨vs,Y,Z⟩:=g.ho;obtain⟨rs,r1,r2⟩:=g.hr;refine{g.sm_upd in_wd _,aW g.hd N.dw,aW g.hst N.sw,aW g.hb N.bw,aW g.hq N.qw,g.hl.keep (L:=L) (fun a u e m=>aW e (N.wl a m).symm) (fun _ hp=>hp),aj,{vs,aW Y N.wo.symm,m8 (m9 g.hw (fun _ z=>by cases z)) Z},{rs,aW r1 N.wr.symm,r2},aW g.hu N.wu.symm,g.hh,g.hm,g.nd,g.fr,?_,g.wt,g.wa,g.wb};obtain⟨kb,kq,nb,nq,wb,wq,nw,sw,nu,su,wo,fw⟩:=g.ok;refine{kb,kq,nb,nq,wb,wq,De nw,fun y hy=>?_,nu,su,wo,fw}
 rcases AD hy with z|z
 ·exact sw y z
 ·rw[z];exact hx
theorem gE.at_{x:Str}:∀{qa:List (Str×aa)} {qu:List (Str×List Int)},gE G qa qu->x∈qu.map (·.1)->∃l,qa.lookup x=some l/\G l=some (.lst ((jR qu x).map V.int))/\l∈qa.map (·.2)
 |_,_,.nil,m=>by cases m
 |(k,l)::qa,(k',xs)::qu,.cons a b,m=>by
  obtain⟨e,ha⟩:=a;dsimp only at e ha;subst e
  by_cases c:x=k
  ·subst c;refine{l,bT,?_,aC};unfold jR;rw[bT];exact ha
  ·have Z:x∈qu.map (·.1):=by
    rcases ar.mp m with z|z
    ·exact absurd z c
    ·exact z
   obtain⟨Y,h1,h2,W⟩:=gE.at_ b Z;refine{Y,?_,?_,ak _ W}
   ·rw[cG,beq_eq_false_iff_ne.mpr c];exact h1
   ·unfold jR at h2 |-;rw[cG,beq_eq_false_iff_ne.mpr c];exact h2
theorem qN{Z:Type}{x:Str}{a:Z}:∀{ps:List (Str×Z)},ps.lookup x=some a->(x,a)∈ps
 | [],h=>by cases h
 |(k,b)::ps,h=>by
  by_cases c:x=k
  ·subst c;rw[bT]at h
   cases h;exact aC
  ·rw[cG,beq_eq_false_iff_ne.mpr c]at h;exact ak _ (qN h)
theorem EY{Z:Type}{x:Str}{n:Z}{ps:List (Str×Z)}(h:x∉ps.map (·.1)):pF ps x n=ps:=by
 unfold pF;have:∀p∈ps,(if p.1=x then (p.1,n) else p)=p:=fun p hp=>if_neg fun e=>h (cD.mpr ⟨p,hp,e⟩);rw[ie this];exact List.map_id _
theorem gE.set{x:Str}{l:aa}{ns:List Int}:∀{qa:List (Str×aa)} {qu:List (Str×List Int)},gE G qa qu->(qa.map (·.2)).Nodup->(qu.map (·.1)).Nodup->qa.lookup x=some l->gE (upd G l (.lst (ns.map V.int))) qa (pF qu x ns)
 |_,_,.nil,_,_,e=>by cases e
 |(k,Z)::qa,(k',xs)::qu,.cons a b,nd,nk,e=>by
  obtain⟨Y,ha⟩:=a;dsimp only at Y ha;subst Y;obtain⟨n1,n2⟩:=cM.mp nd;obtain⟨U,W⟩:=cM.mp nk
  by_cases c:x=k
  ·subst c;rw[bT]at e
   cases e;show gE _ _ ((if x=x then (x,ns) else (x,xs))::pF qu x ns);rw[if_pos rfl,EY U];refine .cons ⟨rfl,aj⟩ ?_;refine gE.keep (L:={0,0,0,0,0,0,0,0,0,0,.non,.non,qa}) (G:=G) (fun a u e m=>aW e fun z=>n1 (by rw[<- z];exact m)) (fun _ hp=>hp) b
  ·rw[cG,beq_eq_false_iff_ne.mpr c]at e;show gE _ _ ((if k=x then (k,ns) else (k,xs))::pF qu x ns);rw[if_neg fun z=>c z.symm];refine .cons {rfl,aW ha fun z=>n1 ?_} (gE.set b n2 W e);show Z∈qa.map (·.2);rw[show Z=l from z];exact cD.mpr {_,qN e,rfl}
theorem Dg.queue(g:Dg CD CS bs qs H0 G L h ds w){x:Str}{l:aa}{ns:List Int}(hl:L.qa.lookup x=some l)(len:ns.length<=30)(J:∀n∈ns,Wo n):Dg CD CS bs qs H0 (upd G l (.lst (ns.map V.int))) L h ds {w with qu:=pF w.qu x ns}:=by
 have N:=Lay.ne g.nd;have Z:l∈L.qa.map (·.2):=cD.mpr {_,qN hl,rfl};obtain⟨vs,U,W⟩:=g.ho;obtain⟨rs,r1,r2⟩:=g.hr;obtain⟨kb,kq,nb,nq,wb,wq,nw,sw,nu,su,wo,fw⟩:=g.ok;have Y:∃xs,G l=some (.lst xs):=by
  have key:∀{qa:List (Str×aa)} {qu:List (Str×List Int)},gE G qa qu->l∈qa.map (·.2)->∃xs,G l=some (.lst xs):=fun {qa qu} q=>by
   induction q with
   |nil=>intro m;cases m
   |cons a _ O=>
    intro m
    rcases ar.mp m with z|z
    ·rw[z];exact{_,a.2}
    ·exact O z
  exact key g.hl Z
 obtain⟨xs,Y⟩:=Y;refine{g.sm_upd (in_l Z) _,aW g.hd (N.dl l Z),aW g.hst (N.sl l Z),aW g.hb (N.bl l Z),aW g.hq (N.ql l Z),g.hl.set N.ll (by rw[kq];exact nq) hl,aW g.hw (N.wl l Z),{vs,aW U (N.ol l Z),m8 (m9 Y (fun _ z=>by cases z)) W},{rs,aW r1 (N.rl l Z),r2},aW g.hu (N.ul l Z),g.hh,g.hm,g.nd,g.fr,?_,g.wt,g.wa,g.wb};refine{kb,(yp _ _ _).trans kq,nb,nq,wb,fun p hp=>?_,nw,sw,nu,su,wo,fw}
 rcases AC hp with z|z
 ·exact wq p z
 ·rw[z];exact⟨len,J⟩
theorem Dg.counts(g:Dg CD CS bs qs H0 G L h ds w)(dr:Nat)(se:Int):Dg CD CS bs qs H0 (upd G L.st (.ins CS L.dxs (pE (.ref L.bd) (.ref L.qd) (.int dr) (.int se)))) L h ds {w with dr:=dr,se:=se}:=by
 have N:=Lay.ne g.nd;obtain⟨vs,Y,Z⟩:=g.ho;obtain⟨rs,r1,r2⟩:=g.hr;obtain⟨kb,kq,nb,nq,wb,wq,nw,sw,nu,su,wo,fw⟩:=g.ok;exact{g.sm_upd LN _,aW g.hd N.ds,aj,aW g.hb N.sb.symm,aW g.hq N.sq.symm,g.hl.keep (L:=L) (fun a u e m=>aW e (N.sl a m).symm) (fun _ hp=>hp),aW g.hw N.sw.symm,{vs,aW Y N.so.symm,m8 (m9 g.hst (fun _ z=>by cases z)) Z},{rs,aW r1 N.sr.symm,r2},aW g.hu N.su.symm,g.hh,g.hm,g.nd,g.fr,⟨kb,kq,nb,nq,wb,wq,nw,sw,nu,su,wo,fw⟩,g.wt,g.wa,g.wb}
theorem Dg.sent(g:Dg CD CS bs qs H0 G L h ds w){vs:List V}{v:V}{e:Ev}(hv:G L.od=some (.lst vs))(U:ib G v e)(O:Wo e.a/\Wo e.b):Dg CD CS bs qs H0 (upd G L.od (.lst (vs++[v]))) L h ds {w with out:=w.out++[e]}:=by
 have N:=Lay.ne g.nd;obtain⟨W,Z,Y⟩:=g.ho;obtain⟨rs,r1,r2⟩:=g.hr;rw[hv]at Z
 cases Z;obtain⟨kb,kq,nb,nq,wb,wq,nw,sw,nu,su,wo,fw⟩:=g.ok;refine{g.sm_upd LP _,aW g.hd N.do_,aW g.hst N.so,aW g.hb N.bo,aW g.hq N.qo,g.hl.keep (L:=L) (fun a u e m=>aW e (N.ol a m).symm) (fun _ hp=>hp),aW g.hw N.wo,{_,aj,?_},{rs,aW r1 N.or.symm,r2},aW g.hu N.ou.symm,g.hh,g.hm,g.nd,g.fr,{kb,kq,nb,nq,wb,wq,nw,sw,nu,su,fun x hx=>(bZ.mp hx).elim (wo x) fun z=>by rw[aD.mp z];exact O,fw},g.wt,g.wa,g.wb};exact m8 (m9 hv (fun _ z=>by cases z)) (eR Y U)
theorem Dg.ended(g:Dg CD CS bs qs H0 G L h ds w):Dg CD CS bs qs H0 (upd G L.d (.ins CD L.dx (dF L.m L.hv L.st L.wd L.od true L.rd L.ud))) L h ds {w with en:=true}:=by
 have N:=Lay.ne g.nd;obtain⟨vs,Y,Z⟩:=g.ho;obtain⟨rs,r1,r2⟩:=g.hr;obtain⟨kb,kq,nb,nq,wb,wq,nw,sw,nu,su,wo,fw⟩:=g.ok;exact{g.sm_upd in_d _,aj,aW g.hst N.ds.symm,aW g.hb N.db.symm,aW g.hq N.dq.symm,g.hl.keep (L:=L) (fun a u e m=>aW e (N.dl a m).symm) (fun _ hp=>hp),aW g.hw N.dw.symm,{vs,aW Y N.do_.symm,m8 (m9 g.hd (fun _ z=>by cases z)) Z},{rs,aW r1 N.dr.symm,r2},aW g.hu N.du.symm,g.hh,g.hm,g.nd,g.fr,⟨kb,kq,nb,nq,wb,wq,nw,sw,nu,su,wo,fw⟩,g.wt,g.wa,g.wb}
theorem Dg.reckoned(g:Dg CD CS bs qs H0 G L h ds w){rs:List V}{v:V}{F:Fm}(hr:G L.rd=some (.lst rs))(U:FmI bs qs H0 v F):Dg CD CS bs qs H0 (upd G L.rd (.lst (rs++[v]))) L h ds {w with rk:=w.rk++[F]}:=by
 have N:=Lay.ne g.nd;obtain⟨vs,W,Y⟩:=g.ho;obtain⟨Z,r1,r2⟩:=g.hr;rw[hr]at r1
 cases r1;obtain⟨kb,kq,nb,nq,wb,wq,nw,sw,nu,su,wo,fw⟩:=g.ok;exact{g.sm_upd in_rd _,aW g.hd N.dr,aW g.hst N.sr,aW g.hb N.br,aW g.hq N.qr,g.hl.keep (L:=L) (fun a u e m=>aW e (N.rl a m).symm) (fun _ hp=>hp),aW g.hw N.wr,{vs,aW W N.or,m8 (m9 hr (fun _ z=>by cases z)) Y},{_,aj,eR r2 U},aW g.hu N.ru.symm,g.hh,g.hm,g.nd,g.fr,⟨kb,kq,nb,nq,wb,wq,nw,sw,nu,su,wo,fw⟩,g.wt,g.wa,g.wb}
theorem Dg.queued(g:Dg CD CS bs qs H0 G L h ds w){x:Str}(hx:x∈bs++qs):Dg CD CS bs qs H0 (upd G L.ud (.dK (wrK (nX w.qn x)))) L h ds {w with qn:=nX w.qn x}:=by
 have N:=Lay.ne g.nd;obtain⟨vs,Y,Z⟩:=g.ho;obtain⟨rs,r1,r2⟩:=g.hr;obtain⟨kb,kq,nb,nq,wb,wq,nw,sw,nu,su,wo,fw⟩:=g.ok;refine{g.sm_upd in_ud _,aW g.hd N.du,aW g.hst N.su,aW g.hb N.bu,aW g.hq N.qu,g.hl.keep (L:=L) (fun a u e m=>aW e (N.ul a m).symm) (fun _ hp=>hp),aW g.hw N.wu,{vs,aW Y N.ou,m8 (m9 g.hu (fun _ z=>by cases z)) Z},{rs,aW r1 N.ru,r2},aj,g.hh,g.hm,g.nd,g.fr,{kb,kq,nb,nq,wb,wq,nw,sw,De nu,fun y hy=>?_,wo,fw},g.wt,g.wa,g.wb}
 rcases AD hy with z|z
 ·exact su y z
 ·rw[z];exact hx
theorem HL{x:Str}{ps:List (Str×Int)}(m:x∈ps.map (·.1)):jQ (boK ps) (Sum.inr x)=some (.int (wY ps x)):=by
 obtain⟨a,h1,_⟩:=oH m;have z:=tM V.int x ps;rw[h1]at z;unfold wY;rw[h1];exact z
theorem HM{x:Str}{l:aa}{qa:List (Str×aa)}(m:qa.lookup x=some l):jQ (quK qa) (Sum.inr x)=some (.ref l):=by
 have z:=tM V.ref x qa;rw[m]at z;exact z
theorem Ks{x:Str}(k:qM bs qs w)(m:x∈bs):Wo (wY w.bx x):=by
 obtain⟨a,h1,h2⟩:=oH (ps:=w.bx) (x:=x) (by rw[k.kb];exact m);unfold wY;rw[h1];exact k.wb _ h2
theorem zk{x:Str}(k:qM bs qs w)(m:x∈qs):(jR w.qu x).length<=30/\∀n∈jR w.qu x,Wo n:=by
 obtain⟨a,h1,h2⟩:=oH (ps:=w.qu) (x:=x) (by rw[k.kq];exact m);unfold jR;rw[h1];exact k.wq _ h2
theorem Dg.asks(g:Dg CD CS bs qs H0 G L h ds w):(AB h w).Ok bs qs:=
 ⟨fun x m=>Ks g.ok m,fun x m=>by
  have:=(zk g.ok m).1;show (jR w.qu x).length<=1000;omega,g.wa,g.wb,g.wt⟩
theorem Dg.holds{K:af}(g:Dg CD CS bs qs H0 G L h ds w){Z:aa}(Y:G Z=some (.lst [.int h.a,.int h.b])):Holds K CS bs qs G L.st Z (AB h w):=
 ⟨⟨L.dxs,L.bd,L.qd,_,_,_,g.hst,Kq _ _ _ _,Kr _ _ _ _,g.hb,g.hq,fun x m=>HL (by rw[g.ok.kb];exact m),fun x m=>by
  obtain⟨l,h1,h2,_⟩:=g.hl.at_ (x:=x) (by rw[g.ok.kq];exact m);exact{l,_,HM h1,h2,au _}⟩,Y⟩
end
end My
namespace L2
open PySem
theorem vc.own{X:Cx}{E:XK}(hb:vc X E):PassesOwn (bA X.prog X.w) X.A X.env X.xe:=by
 rw[hb.xe];exact PassesOwn.leaving
end L2
namespace My
open PySem L2
structure Mt(K:af)(C:aa)(x qual:Str)(st:cX)(ps:List Str)(f:aa)(fd:bX):Prop where
 F:Fun K x qual st f fd
 b:Binds K fd ps []
 m:yQ K C x f
structure HN(K:af)(mg:Str->Option ae)(cf:Flt->aa):Prop where
 two:Fts K mg (cf .nought) (cf .great)
 mF:mg "Full"=some (.ref (cf .full))
 mD:mg "Dry"=some (.ref (cf .dry))
 mS:mg "Span"=some (.ref (cf .span))
 mL:mg "Late"=some (.ref (cf .late))
 xF:cT K (cf .full) o6 "ValueError.__new__"=true
 xD:cT K (cf .dry) o6 "ValueError.__new__"=true
 xS:cT K (cf .span) o6 "ValueError.__new__"=true
 xL:cT K (cf .late) o6 "ValueError.__new__"=true
def uF(cf:Flt->aa)(dg:Wk->Hp->Prop)(H0:Hp)(n:Nat)(r:Except Flt Wk)(Q:VK)(E:XK):Prop:=match r with
 |.ok Z=>∀G',dg Z G'->Z.len<=n->Q .non G'
 |.error e=>∀G',bh H0 G'->E (.ref (cf e)) none G'
theorem lX{cf:Flt->aa}{dg:Wk->Hp->Prop}{H0 G':Hp}{n:Nat}{h:Ev}{w:Wk}{f:Fm}{k:Wk->Int->Except Flt Wk}{Z Q:VK}{E:XK}(p:uF cf dg H0 n (rck h w f k) Z E)(s:bh H0 G')
  (hq:∀r,ev (AB h w) f=.ok r->uF cf dg H0 n (k {w with rk:=w.rk++[f]} r) Z E->Q (.int r) G'):yo (cf .nought) (cf .great) (ev (AB h w) f) Q E G':=by
 unfold rck at p
 cases e:ev (AB h w) f with
 |ok r=>
  rw[e]at p;exact hq r e p
 |nought=>
  rw[e]at p;exact p G' s
 |great=>
  rw[e]at p;exact p G' s
theorem BY{w:Wk}{F:Fm}:w.out.length+(w.rk++[F]).length<=w.len+4:=by
 rw[ay];show _+(_+1)<=w.out.length+w.rk.length+4;omega
theorem Kt{w:Wk}{F F1 F2:Fm}{e:Ev}:(w.out++[e]).length+(w.rk++[F]++[F1]++[F2]).length<=w.len+4:=by
 rw[ay,ay,ay,ay];show _+1+(_+1+1+1)<=w.out.length+w.rk.length+4;omega
theorem Ku{x:Str}{n:Int}{ps:List (Str×Int)}(m:x∈ps.map (·.1)):iW (boK ps) (Sum.inr x) (.int n)=boK (pF ps x n):=by
 obtain⟨a,h1,_⟩:=oH m;exact Kn V.int x n (by rw[h1];rfl)
theorem Kv(ps:List (Str×Int)):(boK ps).length=ps.length:=au _
section
variable{CD CS:aa}{bs qs:List Str}{H0 G G':Hp}{L:Lay}{h:Ev}{ds:List Int}{w:Wk}
theorem Dg.few(g:Dg CD CS bs qs H0 G L h ds w):(boK w.bx).length<aB/\(wrK w.wr).length<aB:=by
 have:=g.ok.few;have:=g.ok.fw;have:=d9;rw[Kv,Dh];have e:=congrArg jD g.ok.kb;rw[au]at e;rw[ay]at *;omega
theorem Dg.putB(g:Dg CD CS bs qs H0 G L h ds w){x:Str}{n:Int}(m:x∈bs):uw G L.bd (.str x) (.int n) (upd G L.bd (.dK (boK (pF w.bx x n)))):=by
 have z:=uw.k (k:=Sum.inr x) (v:=.int n) g.hb g.few.1;rw[Ku (by rw[g.ok.kb];exact m)]at z;exact z
theorem Dg.putW(g:Dg CD CS bs qs H0 G L h ds w)(x:Str):uw G L.wd (.str x) (.bl true) (upd G L.wd (.dK (wrK (nX w.wr x)))):=by
 have z:=uw.k (k:=Sum.inr x) (v:=.bl true) g.hw g.few.2;rw[Dc]at z;exact z
theorem Dg.putU(g:Dg CD CS bs qs H0 G L h ds w)(x:Str):uw G L.ud (.str x) (.bl true) (upd G L.ud (.dK (wrK (nX w.qn x)))):=by
 have z:=uw.k (k:=Sum.inr x) (v:=.bl true) g.hu (by
  have:=g.ok.few2;have:=d9;rw[Dh];omega)
 rw[Dc]at z;exact z
theorem Dg.getL(g:Dg CD CS bs qs H0 G L h ds w){x:Str}(m:x∈qs):∃l,L.qa.lookup x=some l/\G l=some (.lst ((jR w.qu x).map V.int))/\pZ G L.qd (.str x) (some (.ref l)):=by
 obtain⟨l,h1,h2,_⟩:=g.hl.at_ (x:=x) (by rw[g.ok.kq];exact m);refine{l,h1,h2,?_};have z:=pZ.k (k:=Sum.inr x) g.hq;rw[HM h1]at z;exact z
end
section
variable{P:aM}{w:bO}{K:af}{mg:Str->Option ae}{base:cC}{f fN fR fF fW fT fD fL fQ CD CS CM:aa}{fd fdN fdR fdF fdW fdT fdD fdL fdQ:bX}{cf:Flt->aa}{bs qs:List Str}
inductive HP(CD CS:aa)(bs qs:List Str)(vs:List V)(H:Hp)(Q:VK)(_e:XK):Prop where
 |mk(H0:Hp)(L:Lay)(h:Ev)(ds:List Int)(w:Wk)(_:vs=[.ref L.d])(_:Dg CD CS bs qs H0 H L h ds w)(_:Q (.int h.t) H):HP CD CS bs qs vs H Q _e
def HQ(CD CS:aa)(bs qs:List Str):Sp:=fun vs H Q Z=>HP CD CS bs qs vs H Q Z
theorem scNw:bN ["self"] ["self"] (aL jv):={}
theorem HR(M:Mt K CD "now" "Doing.now" jv ["self"] f fd)(T:DT K mg CD):bL P w K mg base CX0 1 f fd ["self"] (HQ CD CS bs qs):=by
 refine M.F.ok scNw (fun vs H Q E h=>?_) (fun Z A outer s H vs Q E hr h=>?_)
 ·obtain⟨H0,L,e,ds,w,rfl,_⟩:=h;rfl
 obtain⟨H0,L,e,ds,w,rfl,g,q⟩:=h;obtain⟨t,k,ev,h1,h2⟩:=g.hh;refine{_,aA (bE (bY cA (bY cA (cV (pv 0) rfl) av (fun _ _=>rfl)) av (fun _ _=>rfl))),?_};exact{_,rfl,L.d,CD,L.dx,_,_,rfl,g.hd,T.cl,T.nH,Ko _ _ _ _ _ _ _ _,t,_,_,_,ev,rfl,SqT.of (g.sm _ _ h1),rfl,k,_,_,_,rfl,rfl,SqT.of (g.sm _ _ h2),rfl,q}
inductive Di(cf:Flt->aa)(CD CS:aa)(bs qs:List Str)(vs:List V)(H:Hp)(Q:VK)(E:XK):Prop where
 |mk(H0:Hp)(L:Lay)(h:Ev)(ds:List Int)(w:Wk)(v:V)(F:Fm)(_:vs=[.ref L.d,v])(_:Dg CD CS bs qs H0 H L h ds w)(_:FmI bs qs H0 v F)(_:w.len<400000)(_:∀G',Dg CD CS bs qs H0 G' L h ds {w with rk:=w.rk++[F]}->yo (cf .nought) (cf .great) (ev (AB h w) F) Q E G'):Di cf CD CS bs qs vs H Q E
def uH(cf:Flt->aa)(CD CS:aa)(bs qs:List Str):Sp:=fun vs H Q E=>Di cf CD CS bs qs vs H Q E
theorem scRk:bN ["self","formula"] ["self","formula"] (aL fu):={}
theorem gk(M:Mt K CD "reckon" "Doing.reckon" fu ["self","formula"] f fd)(V:Mt K CD "now" "Doing.now" jv ["self"] fN fdN)(Y:Df K mg "worth_of" lS ["formula","state","now","got"] fW fdW)(U:Df K mg "number_of_two" gQ ["kind","first","second"] fT fdT)(D:Df K mg "number_of_division" eB ["kind","first","second"] fD fdD)
  (DL:Df K mg "number_of_leaf" gD ["formula","state","now","got"] fL fdL) (T:DT K mg CD) (TF:HN K mg cf) (TM:MdT K mg CM CS) (B:Bl mg):bL P w K mg base (CXo P w) 18 f fd ["self","formula"] (uH cf CD CS bs qs):=by
 have GN:bL P w K mg base CX0 1 fN fdN ["self"] (HQ CD CS bs qs):=HR V T;have I:bL P w K mg base (CXo P w) 17 fW fdW ["formula","state","now","got"] (HF K CS (cf .nought) (cf .great) bs qs 15):=LM Y U D DL TF.two TM B 15;refine M.F.okX scRk (fun vs H Q E h=>?_) (fun bg A outer s H vs Q E hr h=>?_)
 ·obtain⟨H0,L,e,ds,w,v,F,rfl,_⟩:=h;rfl
 obtain⟨H0,L,e,ds,w,v,F,rfl,g,O,fw,q⟩:=h;obtain⟨t,k,J,h1,h2⟩:=g.hh;have r1:cZ 1 _:=hr.mono (by omega);obtain⟨rs,Z,r2⟩:=g.hr;have g0:=g.reckoned Z O;refine{_,ah (e7 (pT cF dJ dM iO (cV (pv 0) rfl) (aq (pv 1) ag))) (aA (bE (aI I hr rfl Y.m Y.F.kp Y.b .nil (dR.passes fun _ _ _ z=>z) (aq (pv 1) (aq (cV (pv 0) rfl) (aq (jb (pv 0) T.cl V.m GN r1 V.b .nil bC) (aq (eU (aq (bY cA (cV (pv 0) rfl) av (fun _ _=>rfl)) (aq (bY cA (cV (pv 0) rfl) av (fun _ _=>rfl)) ag))) ag))))))),?_};have rl:rs.length<aB:=by
  have z:rs.length=w.rk.length:=aZ r2;have:400000<aB:=by decide
  have:w.out.length+w.rk.length<400000:=fw;omega
 refine{_,rfl,L.d,CD,L.dx,_,_,rfl,g.hd,T.cl,T.nR,dF_r _ _ _ _ _ _ _ _,.inl {rfl,_,SqL.of Z},_,rfl,L.rd,_,_,rfl,rfl,Z,rl,?_};refine{_,rfl,_,rfl,L.d,CD,L.dx,_,_,rfl,g0.hd,T.cl,T.nS,xQ _ _ _ _ _ _ _ _,?_};refine{_,rfl,L.d,L.dx,_,rfl,g0.hd,pV _ _ _ _ _ _ _ _ (by decide +kernel),H0,L,e,ds,_,rfl,g0,?_};refine{_,rfl,L.d,CD,L.dx,_,_,rfl,g0.hd,T.cl,T.nH,Ko _ _ _ _ _ _ _ _,t,_,_,_,J,rfl,SqT.of (g0.sm _ _ h1),rfl,?_};refine{_,rfl,L.d,CD,L.dx,_,_,rfl,g0.hd,T.cl,T.nH,Ko _ _ _ _ _ _ _ _,t,_,_,_,J,rfl,SqT.of (g0.sm _ _ h1),rfl,?_};refine{lt2,fun l hl=>?_};have s2:=aE hl (.lst [.int e.a,.int e.b]);have W:=g0.same s2;exact{v,F,L.st,l,AB e w,rfl,(O.1.same W.sm),O.2,W.holds aj,W.asks,q _ W}
inductive HS(CD CS:aa)(bs qs:List Str)(vs:List V)(H:Hp)(Q:VK)(_e:XK):Prop where
 |mk(H0:Hp)(L:Lay)(h:Ev)(ds:List Int)(w:Wk)(x:Str)(_:vs=[.ref L.d,.str x])(_:Dg CD CS bs qs H0 H L h ds w)(_:x∈qs)(_:∀G' l,Dg CD CS bs qs H0 G' L h ds {w with qn:=nX w.qn x}->L.qa.lookup x=some l->G' l=some (.lst ((jR w.qu x).map V.int))->Q (.ref l) G'):HS CD CS bs qs vs H Q _e
def HU(CD CS:aa)(bs qs:List Str):Sp:=fun vs H Q Z=>HS CD CS bs qs vs H Q Z
theorem scQo:bN ["self","name"] ["self","name"] (aL eX):={}
theorem HV(M:Mt K CD "queue_of" "Doing.queue_of" eX ["self","name"] f fd)(T:DT K mg CD)(Z:MdT K mg CM CS):bL P w K mg base CX0 1 f fd ["self","name"] (HU CD CS bs qs):=by
 refine M.F.ok scQo (fun vs H Q E h=>?_) (fun Y A outer s H vs Q E hr h=>?_)
 ·obtain⟨H0,L,e,ds,w,x,rfl,_⟩:=h;rfl
 obtain⟨H0,L,e,ds,w,x,rfl,g,hx,q⟩:=h;have hu:=mO hr;refine{_,ah (mQ hu (cV (pv 0) rfl) (pv 1) oa rfl) (aA (bE (rp hu (cV (cV (pv 0) rfl) rfl) (pv 1) (fun _ _=>rfl)))),?_};have g1:=g.queued (x:=x) (bj _ hx);obtain⟨l,hl,W,dl⟩:=g1.getL hx;refine{_,rfl,L.d,CD,L.dx,_,_,rfl,g.hd,T.cl,T.nQ,dF_u _ _ _ _ _ _ _ _,_,rfl,L.ud,_,rfl,g.putU x,?_};exact{_,rfl,L.d,CD,L.dx,_,_,rfl,g1.hd,T.cl,T.nS,xQ _ _ _ _ _ _ _ _,L.st,CS,L.dxs,_,_,rfl,g1.hst,Z.clS,Z.nQ,Kr _ _ _ _,_,rfl,L.qd,_,rfl,dl,q _ l g1 hl W}
inductive Dj(CD CS:aa)(bs qs:List Str)(vs:List V)(H:Hp)(Q:VK)(_e:XK):Prop where
 |mk(H0:Hp)(L:Lay)(h:Ev)(ds:List Int)(w:Wk)(x:Str)(n:Int)(_:vs=[.ref L.d,.str x,.int n])(_:Dg CD CS bs qs H0 H L h ds w)(_:x∈bs)(_:Wo n)(_:∀G',Dg CD CS bs qs H0 G' L h ds (HH w x n)->Q .non G'):Dj CD CS bs qs vs H Q _e
def zl(CD CS:aa)(bs qs:List Str):Sp:=fun vs H Q Z=>Dj CD CS bs qs vs H Q Z
theorem scFl:bN ["self","box","worth"] ["self","box","worth"] (aL gT):={}
theorem zm(M:Mt K CD "fill" "Doing.fill" gT ["self","box","worth"] f fd)(T:DT K mg CD)(Z:MdT K mg CM CS):bL P w K mg base CX0 1 f fd ["self","box","worth"] (zl CD CS bs qs):=by
 refine M.F.ok scFl (fun vs H Q E h=>?_) (fun W A outer s H vs Q E hr h=>?_)
 ·obtain⟨H0,L,e,ds,w,x,n,rfl,_⟩:=h;rfl
 obtain⟨H0,L,e,ds,w,x,n,rfl,g,hx,V,q⟩:=h;have hu:=mO hr;refine{_,ah (mQ hu (cV (cV (pv 0) rfl) rfl) (pv 1) (pv 2) rfl) (aA (mQ hu (cV (pv 0) rfl) (pv 1) oa rfl)),?_};have g1:=g.box (x:=x) V;have Y:=g1.wrote (x:=x) (gZ _ hx);refine{_,rfl,_,rfl,L.d,CD,L.dx,_,_,rfl,g.hd,T.cl,T.nS,xQ _ _ _ _ _ _ _ _,L.st,CS,L.dxs,_,_,rfl,g.hst,Z.clS,Z.nB,Kq _ _ _ _,_,rfl,L.bd,_,rfl,g.putB hx,?_};exact{_,rfl,L.d,CD,L.dx,_,_,rfl,g1.hd,T.cl,T.nW,HI _ _ _ _ _ _ _ _,_,rfl,L.wd,_,rfl,g1.putW x,q _ Y}
inductive Dk(cf:Flt->aa)(CD CS:aa)(bs qs:List Str)(vs:List V)(H:Hp)(Q:VK)(E:XK):Prop where
 |mk(H0:Hp)(L:Lay)(h:Ev)(ds:List Int)(w:Wk)(x:Str)(v:V)(F:Fm)(_:vs=[.ref L.d,.str x,v])(_:Dg CD CS bs qs H0 H L h ds w)(_:x∈qs)(_:FmI bs qs H0 v F)(_:w.len<400000)(_:uF cf (fun w' G'=>Dg CD CS bs qs H0 G' L h ds w') H0 (w.len+4) (doD h ds (.push x F) w) Q E):Dk cf CD CS bs qs vs H Q E
def BZ(cf:Flt->aa)(CD CS:aa)(bs qs:List Str):Sp:=fun vs H Q E=>Dk cf CD CS bs qs vs H Q E
theorem N5:bN ["doing","name","formula","worth","queue"] ["doing","name","formula"] (aL oy):={}
theorem tO(D:Df K mg "do_push" oy ["doing","name","formula"] f fd)(U:Mt K CD "reckon" "Doing.reckon" fu ["self","formula"] fR fdR)(GR:bL P w K mg base (CXo P w) 18 fR fdR ["self","formula"] (uH cf CD CS bs qs))(Z:Mt K CD "queue_of" "Doing.queue_of" eX ["self","name"] fQ fdQ)(T:DT K mg CD)(O:HN K mg cf)(TM:MdT K mg CM CS)(B:Bl mg) :
  bL P w K mg base (CXo P w) 19 f fd ["doing","name","formula"] (BZ cf CD CS bs qs):=by
 have I:bL P w K mg base CX0 1 fQ fdQ ["self","name"] (HU CD CS bs qs):=HV Z T TM;refine D.F.okX N5 (fun vs H Q E h=>?_) (fun bn A outer s H vs Q E hr h=>?_)
 ·obtain⟨H0,L,e,ds,w,x,v,F,rfl,_⟩:=h;rfl
 obtain⟨H0,L,e,ds,w,x,v,F,rfl,g,hx,J,fw,p⟩:=h;have hu:=mO hr;have r1:cZ 1 _:=hr.mono (by omega);refine⟨_,ah (bJ (i:=3) N5.nd rfl (Or.inl rfl) (gj (pv 0) T.cl U.m GR hr U.b .nil (dR.passes fun _ _ _ z=>z) (aq (pv 2) ag)))
  (ah (bJ (i:=4) N5.nd rfl (Or.inl rfl) (gj (pv 0) T.cl Z.m I r1 Z.b .nil bC (aq (pv 1) ag)))
  (ah (cH (bQ op_ge (cb ig (by rfl) B.len cu (aq (pv 4) ag)) av (cq _)) (aA (jG dR rfl rfl O.mF O.xF (aq bS ag))) bP)
  (ah (e7 (pT cF dJ dM iO (pv 4) (aq (pv 3) ag)))
  (aA (mQ hu (cV (pv 0) rfl) (pv 1) oa rfl))))),?_⟩
 simp only[doD]at p;refine{_,rfl,L.d,L.dx,_,rfl,g.hd,pV _ _ _ _ _ _ _ _ (by decide +kernel),_,rfl,H0,L,e,ds,w,v,F,rfl,g,J,fw,fun G0 g0=>?_};refine lX p g0.sm fun n en p=>?_;dsimp only at p;refine{_,rfl,L.d,L.dx,_,rfl,g0.hd,pV _ _ _ _ _ _ _ _ (by decide +kernel),_,rfl,H0,L,e,ds,_,x,rfl,g0,hx,fun G1 l g1 hl Y=>?_};refine{_,rfl,l,_,rfl,.inl (SqL.of Y),_,_,rfl,rfl,_,rfl,gC (fun c=>?_) (fun c=>?_)}
 ·have c:(30:Int)<=((((jR w.qu x).map V.int).length:Nat):Int):=kF c;rw[au]at c;rw[if_pos (by omega)]at p;exact{(by show 1<=aB;decide),p _ g1.sm}
 ·have c:¬(30:Int)<=((((jR w.qu x).map V.int).length:Nat):Int):=kW c;rw[au]at c;rw[if_neg (by omega)]at p;have wn:Wo n:=vj g1.asks (J.1.same g1.sm) en;have gq:=zk g1.ok hx;have W:=g1.queue (x:=x) (l:=l) (ns:=jR w.qu x++[n]) hl (by rw[ay];simp only[aS,cy];omega) (fun m hm=>by
   rcases bZ.mp hm with z|z
   ·exact gq.2 m z
   ·rw[aD.mp z];exact wn)
  have g3:=W.wrote (x:=x) (bj _ hx);have lt:((jR w.qu x).map V.int).length<aB:=by
   rw[au];have:=d9;omega
  refine{_,rfl,.inl {rfl,_,SqL.of Y},_,rfl,l,_,_,rfl,rfl,Y,lt,?_};have eq:(jR w.qu x).map V.int++[V.int n]=(jR w.qu x++[n]).map V.int:=by rw[cw];rfl
  rw[eq];exact{_,rfl,L.d,CD,L.dx,_,_,rfl,W.hd,T.cl,T.nW,HI _ _ _ _ _ _ _ _,_,rfl,L.wd,_,rfl,W.putW x,p _ g3 (BY (w:=w) (F:=F))}
end
theorem HW(ds:List Int)(i:Nat)(h:i<ds.length):(ds.map V.int)[i]?=some (.int (ds.getD i 0)):=by
 rw[cQ,aH h,dY,aH h];rfl
section
variable{P:aM}{w:bO}{K:af}{mg:Str->Option ae}{base:cC}{f fN fR fF CD CS CM:aa}{fd fdN fdR fdF:bX}{cf:Flt->aa}{bs qs:List Str}
inductive AE(cf:Flt->aa)(CD CS:aa)(bs qs:List Str)(vs:List V)(H:Hp)(Q:VK)(E:XK):Prop where
 |mk(H0:Hp)(L:Lay)(h:Ev)(ds:List Int)(w:Wk)(x:Str)(v:V)(F:Fm)(_:vs=[.ref L.d,.str x,v])(_:Dg CD CS bs qs H0 H L h ds w)(_:x∈bs)(_:FmI bs qs H0 v F)(_:w.len<400000)(_:uF cf (fun w' G'=>Dg CD CS bs qs H0 G' L h ds w') H0 (w.len+4) (doD h ds (.draw x F) w) Q E):AE cf CD CS bs qs vs H Q E
def zo(cf:Flt->aa)(CD CS:aa)(bs qs:List Str):Sp:=fun vs H Q E=>AE cf CD CS bs qs vs H Q E
theorem Kw:bN ["doing","box","formula","divisor","draws","draw"] ["doing","box","formula"] (aL oA):={}
theorem qO(D:Df K mg "do_draw" oA ["doing","box","formula"] f fd)(O:Mt K CD "reckon" "Doing.reckon" fu ["self","formula"] fR fdR)(GR:bL P w K mg base (CXo P w) 18 fR fdR ["self","formula"] (uH cf CD CS bs qs))(U:Mt K CD "fill" "Doing.fill" gT ["self","box","worth"] fF fdF)(T:DT K mg CD)(W:HN K mg cf)(Y:MdT K mg CM CS)(B:Bl mg) :
  bL P w K mg base (CXo P w) 19 f fd ["doing","box","formula"] (zo cf CD CS bs qs):=by
 have GF:bL P w K mg base CX0 1 fF fdF ["self","box","worth"] (zl CD CS bs qs):=zm U T Y;refine D.F.okX Kw (fun vs H Q E h=>?_) (fun bF A outer s H vs Q E hr h=>?_)
 ·obtain⟨H0,L,e,ds,w,x,v,F,rfl,_⟩:=h;rfl
 obtain⟨H0,L,e,ds,w,x,v,F,rfl,g,hx,I,fw,p⟩:=h;have r1:cZ 1 _:=hr.mono (by omega);refine⟨_,ah (bJ (i:=3) Kw.nd rfl (Or.inl rfl) (gj (pv 0) T.cl O.m GR hr O.b .nil (dR.passes fun _ _ _ z=>z) (aq (pv 2) ag)))
  (ah (cH (bQ rN (pv 3) av (cq _)) (aA (jG dR rfl rfl W.two.mN W.two.xN (aq bS ag))) bP)
  (ah (bJ (i:=4) Kw.nd rfl (Or.inl rfl) (bY cA (cV (pv 0) rfl) av (fun _ _=>rfl)))
  (ah (cH (ny (wz (pv 4) (fun _=>rfl))) (aA (jG dR rfl rfl W.mD W.xD (aq bS ag))) bP)
  (ah (bJ (i:=5) Kw.nd rfl (Or.inl rfl) (bY dO (pv 4) (cR sj (cV (cV (pv 0) rfl) rfl) (cb ig (by rfl) B.len cu (aq (pv 4) ag))) (fun _ _=>rfl)))
  (ah (xX (cV (pv 0) rfl) av FP)
  (aA (e7 (gj (pv 0) T.cl U.m GF r1 U.b .nil bC (aq (pv 1) (aq (cR sj (pv 5) (pv 3)) ag)))))))))),?_⟩
 simp only[doD]at p;refine{_,rfl,L.d,L.dx,_,rfl,g.hd,pV _ _ _ _ _ _ _ _ (by decide +kernel),_,rfl,H0,L,e,ds,w,v,F,rfl,g,I,fw,fun G1 g1=>?_};refine lX p g1.sm fun n en p=>?_;refine{_,rfl,_,_,rfl,rfl,_,rfl,gC (fun c=>?_) (fun c=>?_)}
 ·rw[if_pos (kF c)]at p;exact{(by show 1<=aB;decide),p _ g1.sm}
 have c:¬n<1:=kW c;rw[if_neg c]at p;obtain⟨t,x1,x2,x3,x4,dl,em,hm,hdl⟩:=g1.hm;refine{_,rfl,L.d,CD,L.dx,_,_,rfl,g1.hd,T.cl,T.nM,NX _ _ _ _ _ _ _ _,t,_,_,_,em,rfl,SqT.of (g1.sm _ _ hm),rfl,?_};have Z:=g1.sm _ _ hdl;refine{_,rfl,_,.inl {_,SqL.of Z,rfl},?_}
 cases hds:ds with
 |nil=>
  rw[hds]at p;refine gG ?_;exact{(by show 1<=aB;decide),p _ g1.sm}
 |cons d0 dr=>
  rw[<- hds];have ne:¬ds=[]:=by rw[hds];intro z;cases z
  have pos:0<ds.length:=by rw[hds];exact qL _
  rw[if_neg ne]at p;have nb:(!(!(ds.map V.int).isEmpty))=false:=by rw[hds];rfl
  rw[nb];refine eE ?_;have lt:w.dr%ds.length<ds.length:=Nat.mod_lt _ pos;have ix:atI (ds.map V.int) ((w.dr:Int)%(((ds.map V.int).length:Nat):Int))=some (.int (ds.getD (w.dr%ds.length) 0)):=by
   rw[au,<- Int.natCast_emod];exact je (HW ds _ lt)
  refine{_,rfl,_,rfl,L.d,CD,L.dx,_,_,rfl,g1.hd,T.cl,T.nS,xQ _ _ _ _ _ _ _ _,L.st,CS,L.dxs,_,_,rfl,g1.hst,Y.clS,Y.nD,N2 _ _ _ _,_,rfl,dl,_,rfl,.inl (SqL.of Z),_,_,rfl,rfl,(by rw[au];omega),dl,_,_,_,rfl,rfl,SqL.of Z,ix,?_};refine{_,rfl,L.d,CD,L.dx,_,_,rfl,g1.hd,T.cl,T.nS,xQ _ _ _ _ _ _ _ _,L.st,CS,L.dxs,_,_,rfl,g1.hst,Y.clS,Y.nD,N2 _ _ _ _,_,_,rfl,rfl,L.dxs,_,g1.hst,HJ _ _ _ _,?_};rw[N0];have J:=g1.counts (w.dr+1) w.se;have wn:Wo n:=vj g1.asks (I.1.same g1.sm) en;have wm:Wo (ds.getD (w.dr%ds.length) 0%n):=by
   have a1:=lY (ds.getD (w.dr%ds.length) 0) (show n≠0 by omega);have a2:=jJ (ds.getD (w.dr%ds.length) 0) (show 0<n by omega);unfold Wo at wn |-;omega
  exact{_,rfl,L.d,L.dx,_,rfl,J.hd,pV _ _ _ _ _ _ _ _ (by decide +kernel),_,rfl,_,rfl,_,rfl,_,_,rfl,rfl,(by omega),H0,L,e,ds,_,x,_,rfl,J,hx,wm,fun G' g3=>p G' g3 (BY (w:=w) (F:=F))}
inductive Dl(cf:Flt->aa)(CD CS:aa)(bs qs:List Str)(vs:List V)(H:Hp)(Q:VK)(E:XK):Prop where
 |mk(H0:Hp)(L:Lay)(h:Ev)(ds:List Int)(w:Wk)(t:aa)(u u1 u2:V)(to:Int)(sg:Str)(rk:Int)(F F1 F2:Fm)(_:vs=[.ref L.d,.ref t])(_:Dg CD CS bs qs H0 H L h ds w)(_:H0 t=some (.tup [.str "send",.int to,.str sg,u,.int rk,u1,u2]))(_:FmI bs qs H0 u F)(_:FmI bs qs H0 u1 F1)(_:FmI bs qs H0 u2 F2)(_:w.len+4<400000)(_:uF cf (fun w' G'=>Dg CD CS bs qs H0 G' L h ds w') H0 (w.len+4) (doD h ds (.send to sg F rk F1 F2) w) Q E):Dl cf CD CS bs qs vs H Q E
def B0(cf:Flt->aa)(CD CS:aa)(bs qs:List Str):Sp:=fun vs H Q E=>Dl cf CD CS bs qs vs H Q E
theorem EZ:bN ["doing","deed","span","first","second","when","key"] ["doing","deed"] (aL oB):={}
theorem tP(D:Df K mg "do_send" oB ["doing","deed"] f fd)(V:Mt K CD "reckon" "Doing.reckon" fu ["self","formula"] fR fdR)(GR:bL P w K mg base (CXo P w) 18 fR fdR ["self","formula"] (uH cf CD CS bs qs))(MN:Mt K CD "now" "Doing.now" jv ["self"] fN fdN)(T:DT K mg CD)(TF:HN K mg cf)(TM:MdT K mg CM CS)(B:Bl mg) :
  bL P w K mg base (CXo P w) 19 f fd ["doing","deed"] (B0 cf CD CS bs qs):=by
 have GN:bL P w K mg base CX0 1 fN fdN ["self"] (HQ CD CS bs qs):=HR MN T;refine D.F.okX EZ (fun vs H Q E h=>?_) (fun dc A outer s H vs Q E hr h=>?_)
 ·obtain⟨H0,L,e,ds,w,t,u,u1,u2,to,sg,rk,F,F1,F2,rfl,_⟩:=h;rfl
 obtain⟨H0,L,e,ds,w,t,u,u1,u2,to,sg,rk,F,F1,F2,rfl,g,ht,hF,O,I,lo,p⟩:=h;have r1:cZ 1 _:=hr.mono (by omega);refine⟨_,ah (bJ (i:=2) EZ.nd rfl (Or.inl rfl) (gj (pv 0) T.cl V.m GR hr V.b .nil (dR.passes fun _ _ _ z=>z) (aq (bY cA (pv 1) av (fun _ _=>rfl)) ag)))
  (ah (cH (z7 (bQ rN (pv 2) av (cq _)) (wc (bQ uS (pv 2) (cR sy av av) (cq _)))).pt (aA (jG dR rfl rfl TF.mS TF.xS (aq bS ag))) bP)
  (ah (bJ (i:=3) EZ.nd rfl (Or.inl rfl) (gj (pv 0) T.cl V.m GR hr V.b .nil (dR.passes fun _ _ _ z=>z) (aq (bY cA (pv 1) av (fun _ _=>rfl)) ag)))
  (ah (bJ (i:=4) EZ.nd rfl (Or.inl rfl) (gj (pv 0) T.cl V.m GR hr V.b .nil (dR.passes fun _ _ _ z=>z) (aq (bY cA (pv 1) av (fun _ _=>rfl)) ag)))
  (ah (bJ (i:=5) EZ.nd rfl (Or.inl rfl) (cR gK (jb (pv 0) T.cl MN.m GN r1 MN.b .nil bC) (pv 2)))
  (ah (cH (bQ uS (pv 5) (cR sy av av) (cq _)) (aA (jG dR rfl rfl TF.mL TF.xL (aq bS ag))) bP)
  (ah (bJ (i:=6) EZ.nd rfl (Or.inl rfl) (dZ (aq (pv 5) (aq (bY cA (pv 1) av (fun _ _=>rfl)) (aq (bY cA (cV (pv 0) rfl) av (fun _ _=>rfl)) (aq (cV (cV (pv 0) rfl) rfl) ag))))))
  (ah (xX (cV (pv 0) rfl) av FP)
  (aA (e7 (pT cF dJ dM iO (cV (pv 0) rfl) (aq (dZ (aq (pv 6) (aq (bY cA (pv 1) av (fun _ _=>rfl)) (aq (bY cA (pv 1) av (fun _ _=>rfl)) (aq (pv 3) (aq (pv 4) ag)))))) ag))))))))))),?_⟩
 simp only[doD]at p;have f0:w.len<400000:=by omega
 have f1:Wk.len {w with rk:=w.rk++[F]}<400000:=by
  show w.out.length+(w.rk++[F]).length<400000;rw[ay];have:w.out.length+w.rk.length+4<400000:=lo;show _+(_+1)<_;omega
 have f2:Wk.len {w with rk:=w.rk++[F]++[F1]}<400000:=by
  show w.out.length+(w.rk++[F]++[F1]).length<400000;rw[ay,ay];have:w.out.length+w.rk.length+4<400000:=lo;show _+(_+1+1)<_;omega
 have l1:1<=aB:=by decide
 have c6:Eu 10 6:={by decide,by decide,by decide};have dn:Eu 10 12:={by decide,by decide,by decide};have W:∀{G:Hp},bh H0 G->SqT K G t [.str "send",.int to,.str sg,u,.int rk,u1,u2]:=fun {G} z=>SqT.of (z _ _ ht);refine{_,rfl,L.d,L.dx,_,rfl,g.hd,pV _ _ _ _ _ _ _ _ (by decide +kernel),_,rfl,t,_,_,_,rfl,rfl,W g.sm,rfl,H0,L,e,ds,w,u,F,rfl,g,hF,f0,fun G1 g1=>?_};refine lX p g1.sm fun n en p=>?_;refine{_,rfl,_,_,rfl,rfl,_,rfl,gC (fun c=>?_) (fun c=>?_)}
 ·rw[if_pos (.inl (kF c))]at p;exact gG {l1,p _ g1.sm}
 have c:¬n<1:=kW c;refine{_,rfl,_,_,rfl,rfl,c6,_,_,rfl,rfl,_,rfl,gC (fun c2=>?_) (fun c2=>?_)}
 ·rw[if_pos (.inr (kF c2))]at p;exact{l1,p _ g1.sm}
 have c2:¬10^6<n:=kW c2;rw[if_neg (fun z=>z.elim c c2)]at p;refine{_,rfl,L.d,L.dx,_,rfl,g1.hd,pV _ _ _ _ _ _ _ _ (by decide +kernel),_,rfl,t,_,_,_,rfl,rfl,W g1.sm,rfl,H0,L,e,ds,_,u1,F1,rfl,g1,O,f1,fun G2 U=>?_};refine lX p U.sm fun n1 dj p=>?_;refine{_,rfl,L.d,L.dx,_,rfl,U.hd,pV _ _ _ _ _ _ _ _ (by decide +kernel),_,rfl,t,_,_,_,rfl,rfl,W U.sm,rfl,H0,L,e,ds,_,u2,F2,rfl,U,I,f2,fun G3 Z=>?_};refine lX p Z.sm fun n2 di p=>?_;refine{_,rfl,L.d,L.dx,_,rfl,Z.hd,pV _ _ _ _ _ _ _ _ (by decide +kernel),H0,L,e,ds,_,rfl,Z,_,rfl,_,_,rfl,rfl,?_};refine{_,rfl,_,_,rfl,rfl,dn,_,_,rfl,rfl,_,rfl,gC (fun c3=>?_) (fun c3=>?_)}
 ·rw[if_pos (show 10^12<e.t+n from kF c3)]at p;exact{l1,p _ Z.sm}
 rw[if_neg (show ¬10^12<e.t+n from kW c3)]at p;obtain⟨th,kh,eh,h1,h2⟩:=Z.hh;refine{_,rfl,_,rfl,t,_,_,_,rfl,rfl,W Z.sm,rfl,_,rfl,L.d,CD,L.dx,_,_,rfl,Z.hd,T.cl,T.nH,Ko _ _ _ _ _ _ _ _,th,_,_,_,eh,rfl,SqT.of (Z.sm _ _ h1),rfl,_,rfl,L.d,CD,L.dx,_,_,rfl,Z.hd,T.cl,T.nS,xQ _ _ _ _ _ _ _ _,L.st,CS,L.dxs,_,_,rfl,Z.hst,TM.clS,TM.nS,N3 _ _ _ _,(by show 4<=aB;decide),fun Y hk=>?_};have s4:=aE hk (.tup [.int (e.t+n),.int rk,.int e.to,.int w.se]);have J:=Z.same s4;refine{_,rfl,L.d,CD,L.dx,_,_,rfl,J.hd,T.cl,T.nS,xQ _ _ _ _ _ _ _ _,L.st,CS,L.dxs,_,_,rfl,J.hst,TM.clS,TM.nS,N3 _ _ _ _,_,_,rfl,rfl,L.dxs,_,J.hst,HJ _ _ _ _,?_};rw[N1];have g5:=J.counts w.dr (w.se+1);have dt:∀{G:Hp} {o o':HO},G Y=some (.tup [.int (e.t+n),.int rk,.int e.to,.int w.se])->G L.st=some o'->(∀xs,o'≠.tup xs)->upd G L.st o Y=some (.tup [.int (e.t+n),.int rk,.int e.to,.int w.se]):=fun h1 h2 h3=>aW h1 (pO h1 h2 (fun z=>h3 _ z.symm));have k5:=dt (o:=.ins CS L.dxs (pE (.ref L.bd) (.ref L.qd) (.int w.dr) (.int (w.se+1)))) (aj:upd G3 Y _ Y=_) J.hst (fun xs z=>by cases z);obtain⟨vs,o1,o2⟩:=g5.ho;refine{_,rfl,L.d,CD,L.dx,_,_,rfl,g5.hd,T.cl,T.nO,dF_o _ _ _ _ _ _ _ _,.inl {rfl,_,SqL.of o1},?_};refine{_,rfl,_,rfl,t,_,_,_,rfl,rfl,W g5.sm,rfl,_,rfl,t,_,_,_,rfl,rfl,W g5.sm,rfl,_,rfl,_,rfl,lt5,fun ev de=>?_};have s6:=aE de (.tup [.ref Y,.int to,.str sg,.int n1,.int n2]);have g6:=g5.same s6;have ol:vs.length<aB:=by
  have:=aZ o2;have z:vs.length=w.out.length:=this;have:400000<aB:=by decide
  have:w.out.length+w.rk.length+4<400000:=lo;omega
 refine{L.od,vs,_,rfl,rfl,s6 _ _ o1,ol,?_};have g7:=g6.sent (v:=.ref ev) (e:={e.t+n,rk,e.to,w.se,to,sg,n1,n2}) (s6 _ _ o1) {ev,Y,rfl,aj,s6 _ _ k5} {vj g1.asks (O.1.same g1.sm) dj,vj U.asks (I.1.same U.sm) di};exact p _ g7 (Kt (w:=w) (F:=F) (F1:=F1) (F2:=F2))
end
mutual
def Dd.size:Dd->Nat
 |.pull _ _ o=>o.size+1
 |.ife _ t e=>t.size+e.size+1
 |_=>1
def Ds.size:Ds->Nat
 |.nil=>0
 |.cons d r=>d.size+r.size
end
theorem uF.le{cf:Flt->aa}{dg:Wk->Hp->Prop}{H0:Hp}{m n:Nat}{r:Except Flt Wk}{Q:VK}{E:XK}(p:uF cf dg H0 n r Q E)(h:m<=n):uF cf dg H0 m r Q E:=by
 cases r with
 |ok w=>exact fun G g l=>p G g (dB l h)
 |error e=>exact p
section
variable{P:aM}{w:bO}{K:af}{mg:Str->Option ae}{base:cC}{f fR fF fP fD fU fW fS f1 fQ CD CS CM:aa}{fd fdR fdF fdP fdD fdU fdW fdS fd1 fdQ:bX}{cf:Flt->aa}{bs qs:List Str}
inductive HX(cf:Flt->aa)(CD CS:aa)(bs qs:List Str)(n:Nat)(vs:List V)(H:Hp)(Q:VK)(E:XK):Prop where
 |mk(H0:Hp)(L:Lay)(h:Ev)(ds:List Int)(w:Wk)(v:V)(D:Ds)(_:vs=[.ref L.d,v])(_:Dg CD CS bs qs H0 H L h ds w)(_:m7 H0 (fK bs qs H0 D) v)(_:D.deep<n)(_:w.len+4*D.size<400000)(_:uF cf (fun w' G'=>Dg CD CS bs qs H0 G' L h ds w') H0 (w.len+4*D.size) (doS h ds D w) Q E):HX cf CD CS bs qs n vs H Q E
def wZ(cf:Flt->aa)(CD CS:aa)(bs qs:List Str)(n:Nat):Sp:=fun vs H Q E=>HX cf CD CS bs qs n vs H Q E
inductive LQ(cf:Flt->aa)(CD CS:aa)(bs qs:List Str)(n:Nat)(vs:List V)(H:Hp)(Q:VK)(E:XK):Prop where
 |mk(H0:Hp)(L:Lay)(h:Ev)(ds:List Int)(w:Wk)(v:V)(D:Dd)(_:vs=[.ref L.d,v])(_:Dg CD CS bs qs H0 H L h ds w)(_:eO bs qs H0 D v)(_:D.deep<n)(_:w.len+4*D.size<400000)(_:uF cf (fun w' G'=>Dg CD CS bs qs H0 G' L h ds w') H0 (w.len+4*D.size) (doD h ds D w) Q E):LQ cf CD CS bs qs n vs H Q E
def spDd(cf:Flt->aa)(CD CS:aa)(bs qs:List Str)(n:Nat):Sp:=fun vs H Q E=>LQ cf CD CS bs qs n vs H Q E
inductive Do(cf:Flt->aa)(CD CS:aa)(bs qs:List Str)(n:Nat)(vs:List V)(H:Hp)(Q:VK)(E:XK):Prop where
 |mk(H0:Hp)(L:Lay)(h:Ev)(ds:List Int)(w:Wk)(q x:Str)(v:V)(D:Ds)(_:vs=[.ref L.d,.str q,.str x,v])(_:Dg CD CS bs qs H0 H L h ds w)(_:q∈qs)(_:x∈bs)(_:m7 H0 (fK bs qs H0 D) v)(_:D.deep<n)(_:w.len+4*D.size<400000)(_:uF cf (fun w' G'=>Dg CD CS bs qs H0 G' L h ds w') H0 (w.len+4*D.size) (doD h ds (.pull q x D) w) Q E):Do cf CD CS bs qs n vs H Q E
def HY(cf:Flt->aa)(CD CS:aa)(bs qs:List Str)(n:Nat):Sp:=fun vs H Q E=>Do cf CD CS bs qs n vs H Q E
theorem scPl:bN ["doing","name","box","otherwise","queue"] ["doing","name","box","otherwise"] (aL oz):={}
theorem Kx{n k:Nat}(hk:1<=k)(D:Df K mg "do_pull" oz ["doing","name","box","otherwise"] f fd)(O:Df K mg "do_deeds" iG ["doing","deeds"] fD fdD)(GD:bL P w K mg base (CXo P w) k fD fdD ["doing","deeds"] (wZ cf CD CS bs qs n))(J:Mt K CD "fill" "Doing.fill" gT ["self","box","worth"] fF fdF)(W:Mt K CD "queue_of" "Doing.queue_of" eX ["self","name"] fQ fdQ)(T:DT K mg CD)(I:MdT K mg CM CS) :
  bL P w K mg base (CXo P w) (k+1) f fd ["doing","name","box","otherwise"] (HY cf CD CS bs qs n):=by
 have GF:bL P w K mg base CX0 1 fF fdF ["self","box","worth"] (zl CD CS bs qs):=zm J T I;have GQ:bL P w K mg base CX0 1 fQ fdQ ["self","name"] (HU CD CS bs qs):=HV W T I;refine D.F.okX scPl (fun vs H Q E h=>?_) (fun bt A outer s H vs Q E hr h=>?_)
 ·obtain⟨H0,L,e,ds,w,q,x,v,D,rfl,_⟩:=h;rfl
 obtain⟨H0,L,e,ds,w,q,x,v,D,rfl,g,hq,hx,hv,hn,ho,p⟩:=h;have r1:cZ 1 _:=hr.mono hk;have hu:=mO hr;refine⟨_,ah (bJ (i:=4) scPl.nd rfl (Or.inl rfl) (gj (pv 0) T.cl W.m GQ r1 W.b .nil bC (aq (pv 1) ag)))
  (aA (cH (wz (pv 4) (fun _=>rfl))
   (ah (e7 (gj (pv 0) T.cl J.m GF r1 J.b .nil bC (aq (pv 2) (aq (pT cF zW zX F4 (pv 4) (aq av ag)) ag))))
   (aA (mQ hu (cV (pv 0) rfl) (pv 1) oa rfl)))
   (aA (e7 (aI GD hr rfl O.m O.F.kp O.b .nil (dR.passes fun _ _ _ z=>z) (aq (pv 0) (aq (pv 3) ag))))))),?_⟩
 simp only[doD]at p;refine{_,rfl,L.d,L.dx,_,rfl,g.hd,pV _ _ _ _ _ _ _ _ (by decide +kernel),_,rfl,H0,L,e,ds,w,q,rfl,g,hq,fun G0 l g0 hl Z=>?_};refine{_,rfl,_,.inl {_,SqL.of Z,rfl},?_};have Y:(jR w.qu q).length<=30/\∀n∈jR w.qu q,Wo n:=zk g.ok hq
 cases e1:jR w.qu q with
 |nil=>
  rw[e1]at p;refine eE ?_;exact{_,rfl,_,rfl,H0,L,e,ds,_,v,D,rfl,g0,hv,hn,ho,p}
 |cons m ms=>
  rw[e1]at p Z Y;refine gG ?_;have g1:=g0.queue (x:=q) (l:=l) (ns:=ms) hl (by have:=Y.1;rw[aS]at this;omega) (fun z hz=>Y.2 z (ak _ hz));refine{_,rfl,L.d,L.dx,_,rfl,g0.hd,pV _ _ _ _ _ _ _ _ (by decide +kernel),_,rfl,_,rfl,.inl {rfl,_,SqL.of Z},l,_,_,0,.int m,rfl,rfl,Z,(by decide),(by decide),(yU (n:=((m::ms).map V.int).length) (i:=0) (j:=0) (by unfold ixN;rw[if_pos (by decide),if_pos (by rw[au,aS];omega)];rfl)).1,rfl,?_};refine{H0,L,e,ds,_,x,m,rfl,g1,hx,Y.2 m aC,fun G2 U=>?_};have g3:=U.wrote (x:=q) (bj _ hq);exact{_,rfl,L.d,CD,L.dx,_,_,rfl,U.hd,T.cl,T.nW,HI _ _ _ _ _ _ _ _,_,rfl,L.wd,_,rfl,U.putW q,p _ g3 (w5 _ _)}
theorem scDd:bN ["doing","deed","kind"] ["doing","deed"] (aL oq):={}
theorem Ky{n k:Nat}(hk:19<=k)(D:Df K mg "do_deed" oq ["doing","deed"] f fd)(DD:Df K mg "do_deeds" iG ["doing","deeds"] fD fdD)(GD:bL P w K mg base (CXo P w) k fD fdD ["doing","deeds"] (wZ cf CD CS bs qs n))
  (MF:Mt K CD "fill" "Doing.fill" gT ["self","box","worth"] fF fdF) (MR:Mt K CD "reckon" "Doing.reckon" fu ["self","formula"] fR fdR) (GR:bL P w K mg base (CXo P w) 18 fR fdR ["self","formula"] (uH cf CD CS bs qs))
  (DP:Df K mg "do_pull" oz ["doing","name","box","otherwise"] fP fdP) (DU:Df K mg "do_push" oy ["doing","name","formula"] fU fdU) (GU:bL P w K mg base (CXo P w) 19 fU fdU ["doing","name","formula"] (BZ cf CD CS bs qs))
  (DW:Df K mg "do_draw" oA ["doing","box","formula"] fW fdW) (GW:bL P w K mg base (CXo P w) 19 fW fdW ["doing","box","formula"] (zo cf CD CS bs qs)) (DS:Df K mg "do_send" oB ["doing","deed"] fS fdS) (GS:bL P w K mg base (CXo P w) 19 fS fdS ["doing","deed"] (B0 cf CD CS bs qs)) (MQ:Mt K CD "queue_of" "Doing.queue_of" eX ["self","name"] fQ fdQ) (T:DT K mg CD) (TM:MdT K mg CM CS) :
  bL P w K mg base (CXo P w) (k+2) f fd ["doing","deed"] (spDd cf CD CS bs qs (n+1)):=by
 have GF:bL P w K mg base CX0 1 fF fdF ["self","box","worth"] (zl CD CS bs qs):=zm MF T TM;have GP:bL P w K mg base (CXo P w) (k+1) fP fdP ["doing","name","box","otherwise"] (HY cf CD CS bs qs n):=Kx (by omega) DP DD GD MF MQ T TM;refine D.F.okX scDd (fun vs H Q E h=>?_) (fun cx A outer s H vs Q E hr h=>?_)
 ·obtain⟨H0,L,e,ds,w,v,D,rfl,_⟩:=h;rfl
 obtain⟨H0,L,e,ds,w,v,D,rfl,g,hv,hn,ho,p⟩:=h;have r1:cZ 1 _:=hr.mono (by omega);have O:cZ 18 _:=hr.mono (by omega);have U:cZ 19 _:=hr.mono (by omega);have rk:cZ k _:=hr.mono (by omega);refine⟨_,ah (bJ (i:=2) scDd.nd rfl (Or.inl rfl) (bY cA (pv 1) av (fun _ _=>rfl)))
  (aA (cH (bQ fc (pv 2) bS (cq _)) (aA (e7 (gj (pv 0) T.cl MF.m GF r1 MF.b .nil bC (aq (bY cA (pv 1) av (fun _ _=>rfl)) (aq (gj (pv 0) T.cl MR.m GR O MR.b .nil (dR.passes fun _ _ _ z=>z) (aq (bY cA (pv 1) av (fun _ _=>rfl)) ag)) ag)))))
  (aA (cH (bQ fc (pv 2) bS (cq _)) (aA (e7 (aI GU U rfl DU.m DU.F.kp DU.b .nil (dR.passes fun _ _ _ z=>z) (aq (pv 0) (aq (bY cA (pv 1) av (fun _ _=>rfl)) (aq (bY cA (pv 1) av (fun _ _=>rfl)) ag))))))
  (aA (cH (bQ fc (pv 2) bS (cq _)) (aA (e7 (aI GP hr rfl DP.m DP.F.kp DP.b .nil (dR.passes fun _ _ _ z=>z) (aq (pv 0) (aq (bY cA (pv 1) av (fun _ _=>rfl)) (aq (bY cA (pv 1) av (fun _ _=>rfl)) (aq (bY cA (pv 1) av (fun _ _=>rfl)) ag)))))))
  (aA (cH (bQ fc (pv 2) bS (cq _)) (aA (e7 (aI GW U rfl DW.m DW.F.kp DW.b .nil (dR.passes fun _ _ _ z=>z) (aq (pv 0) (aq (bY cA (pv 1) av (fun _ _=>rfl)) (aq (bY cA (pv 1) av (fun _ _=>rfl)) ag))))))
  (aA (cH (bQ fc (pv 2) bS (cq _)) (aA (e7 (aI GS U rfl DS.m DS.F.kp DS.b .nil (dR.passes fun _ _ _ z=>z) (aq (pv 0) (aq (pv 1) ag)))))
  (aA (cH (bQ fc (pv 2) bS (cq _)) (aA (e7 (aI GD rk rfl DD.m DD.F.kp DD.b .nil (dR.passes fun _ _ _ z=>z) (aq (pv 0) (aq (wj (bQ Cq (gj (pv 0) T.cl MR.m GR O MR.b .nil (dR.passes fun _ _ _ z=>z) (aq (bY cA (pv 1) av (fun _ _=>rfl)) ag)) av (cq _)) (bY cA (pv 1) av (fun _ _=>rfl)) (bY cA (pv 1) av (fun _ _=>rfl))) ag)))))
  (aA (cH (bQ fc (pv 2) bS (cq _)) (aA (eT (pv 0) oa rfl)) bP)))))))))))))),?_⟩
 have no:∀{m:Str},BX.contains m=false->(dF L.m L.hv L.st L.wd L.od w.en L.rd L.ud).lookup m=none:=fun z=>pV _ _ _ _ _ _ _ _ z;have nx:∀{a b:Str} {I p2:Prop},(a==b)=false->p2->(if decide (V.str a=V.str b)=true then I else p2):=fun z q=>oG (vA (sne z)) (eE q);have W:∀{a:Str} {I p2:Prop},I->(if decide (V.str a=V.str a)=true then I else p2):=fun q=>oG (EW _) (gG q);have fw:w.len<400000:=by omega
 cases D with
 |put x F=>
  obtain⟨t,u,rfl,ht,hx,Y⟩:=(by simpa only[eO] using hv);have Z:=SqT.of (K:=K) (g.sm _ _ ht);simp only[doD]at p;refine{_,rfl,t,_,_,_,rfl,rfl,Z,rfl,_,rfl,rfl,_,rfl,W ?_};refine{_,rfl,L.d,L.dx,_,rfl,g.hd,no (by decide +kernel),_,rfl,t,_,_,_,rfl,rfl,Z,rfl,?_};refine{_,rfl,L.d,L.dx,_,rfl,g.hd,no (by decide +kernel),_,rfl,t,_,_,_,rfl,rfl,Z,rfl,H0,L,e,ds,w,u,F,rfl,g,Y,fw,fun G1 g1=>?_};refine lX p g1.sm fun m em p=>?_;exact{H0,L,e,ds,_,x,m,rfl,g1,hx,vj g1.asks (Y.1.same g1.sm) em,fun G' g'=>p G' g' (BY (w:=w) (F:=F))}
 |push x F=>
  obtain⟨t,u,rfl,ht,hx,Y⟩:=(by simpa only[eO] using hv);have Z:=SqT.of (K:=K) (g.sm _ _ ht);refine{_,rfl,t,_,_,_,rfl,rfl,Z,rfl,_,rfl,rfl,_,rfl,nx (by decide +kernel) ?_};refine{_,rfl,rfl,_,rfl,W ?_};exact{_,rfl,_,rfl,t,_,_,_,rfl,rfl,Z,rfl,_,rfl,t,_,_,_,rfl,rfl,Z,rfl,H0,L,e,ds,w,x,u,F,rfl,g,hx,Y,fw,p}
 |pull q x o=>
  obtain⟨t,u,rfl,ht,hq,hx,hl⟩:=(by simpa only[eO] using hv);have Z:=SqT.of (K:=K) (g.sm _ _ ht);simp only[Dd.deep]at hn;simp only[Dd.size]at ho p;refine{_,rfl,t,_,_,_,rfl,rfl,Z,rfl,_,rfl,rfl,_,rfl,nx (by decide +kernel) ?_};refine{_,rfl,rfl,_,rfl,nx (by decide +kernel) ?_};refine{_,rfl,rfl,_,rfl,W ?_};exact{_,rfl,_,rfl,t,_,_,_,rfl,rfl,Z,rfl,_,rfl,t,_,_,_,rfl,rfl,Z,rfl,_,rfl,t,_,_,_,rfl,rfl,Z,rfl,H0,L,e,ds,w,q,x,u,o,rfl,g,hq,hx,hl,(by omega),(by omega),p.le (by omega)}
 |draw x F=>
  obtain⟨t,u,rfl,ht,hx,Y⟩:=(by simpa only[eO] using hv);have Z:=SqT.of (K:=K) (g.sm _ _ ht);refine{_,rfl,t,_,_,_,rfl,rfl,Z,rfl,_,rfl,rfl,_,rfl,nx (by decide +kernel) ?_};refine{_,rfl,rfl,_,rfl,nx (by decide +kernel) ?_};refine{_,rfl,rfl,_,rfl,nx (by decide +kernel) ?_};refine{_,rfl,rfl,_,rfl,W ?_};exact{_,rfl,_,rfl,t,_,_,_,rfl,rfl,Z,rfl,_,rfl,t,_,_,_,rfl,rfl,Z,rfl,H0,L,e,ds,w,x,u,F,rfl,g,hx,Y,fw,p}
 |send to sg F rk F1 F2=>
  obtain⟨t,u,u1,u2,rfl,ht,Y,dc,da⟩:=(by simpa only[eO] using hv);have Z:=SqT.of (K:=K) (g.sm _ _ ht);simp only[Dd.size]at ho p;refine{_,rfl,t,_,_,_,rfl,rfl,Z,rfl,_,rfl,rfl,_,rfl,nx (by decide +kernel) ?_};refine{_,rfl,rfl,_,rfl,nx (by decide +kernel) ?_};refine{_,rfl,rfl,_,rfl,nx (by decide +kernel) ?_};refine{_,rfl,rfl,_,rfl,nx (by decide +kernel) ?_};refine{_,rfl,rfl,_,rfl,W ?_};exact{_,rfl,_,rfl,H0,L,e,ds,w,t,u,u1,u2,to,sg,rk,F,F1,F2,rfl,g,ht,Y,dc,da,(by omega),p}
 |ife F x y=>
  obtain⟨t,u,u1,u2,rfl,ht,Y,hX,hY⟩:=(by simpa only[eO] using hv);simp only[Dd.deep]at hn;simp only[Dd.size]at ho p;simp only[doD]at p;have Z:=SqT.of (K:=K) (g.sm _ _ ht);refine{_,rfl,t,_,_,_,rfl,rfl,Z,rfl,_,rfl,rfl,_,rfl,nx (by decide +kernel) ?_};refine{_,rfl,rfl,_,rfl,nx (by decide +kernel) ?_};refine{_,rfl,rfl,_,rfl,nx (by decide +kernel) ?_};refine{_,rfl,rfl,_,rfl,nx (by decide +kernel) ?_};refine{_,rfl,rfl,_,rfl,nx (by decide +kernel) ?_};refine{_,rfl,rfl,_,rfl,W ?_};refine{_,rfl,_,rfl,L.d,L.dx,_,rfl,g.hd,no (by decide +kernel),_,rfl,t,_,_,_,rfl,rfl,Z,rfl,H0,L,e,ds,w,u,F,rfl,g,Y,fw,fun G1 g1=>?_};have J:=SqT.of (K:=K) (g1.sm _ _ ht);have lw:Wk.len {w with rk:=w.rk++[F]}=w.len+1:=by
   show w.out.length+(w.rk++[F]).length=w.out.length+w.rk.length+1;rw[ay];rfl
  refine lX p g1.sm fun m em p=>?_;refine{rfl,_,rfl,?_}
  by_cases c:m=0
  ·subst c;rw[if_pos rfl]at p;refine oG (b:=false) rfl (eE ?_);exact{_,rfl,t,_,_,_,rfl,rfl,J,rfl,H0,L,e,ds,_,u2,y,rfl,g1,hY,(by omega),(by rw[lw];omega),p.le (by rw[lw];omega)}
  ·rw[if_neg c]at p;refine oG (b:=true) (by rw[decide_eq_false (fun z=>c (zj z))];rfl) (gG ?_);exact{_,rfl,t,_,_,_,rfl,rfl,J,rfl,H0,L,e,ds,_,u1,x,rfl,g1,hX,(by omega),(by rw[lw];omega),p.le (by rw[lw];omega)}
 |fin=>
  obtain⟨t,rfl,ht⟩:=(by simpa only[eO] using hv);have Z:=SqT.of (K:=K) (g.sm _ _ ht);simp only[doD]at p;refine{_,rfl,t,_,_,_,rfl,rfl,Z,rfl,_,rfl,rfl,_,rfl,nx (by decide +kernel) ?_};refine{_,rfl,rfl,_,rfl,nx (by decide +kernel) ?_};refine{_,rfl,rfl,_,rfl,nx (by decide +kernel) ?_};refine{_,rfl,rfl,_,rfl,nx (by decide +kernel) ?_};refine{_,rfl,rfl,_,rfl,nx (by decide +kernel) ?_};refine{_,rfl,rfl,_,rfl,nx (by decide +kernel) ?_};refine{_,rfl,rfl,_,rfl,W ?_};refine{_,rfl,L.d,CD,L.dx,_,rfl,g.hd,T.cl,T.nE,N4 _ _ _ _ _ _ _ _,?_};rw[NZ];exact p _ g.ended (w5 _ _)
theorem scDs:bN ["doing","deeds","deed"] ["doing","deeds"] (aL iG):={}
theorem E1{n k:Nat}(D:Df K mg "do_deeds" iG ["doing","deeds"] f fd)(D1:Df K mg "do_deed" oq ["doing","deed"] f1 fd1)(G1:bL P w K mg base (CXo P w) k f1 fd1 ["doing","deed"] (spDd cf CD CS bs qs n)) :
  bL P w K mg base (CXo P w) (k+1) f fd ["doing","deeds"] (wZ cf CD CS bs qs n):=by
 refine D.F.okX scDs (fun vs H Q E h=>?_) (fun bB A outer s H vs Q E hr h=>?_)
 ·obtain⟨H0,L,e,ds,w,v,D,rfl,_⟩:=h;rfl
 obtain⟨H0,L,e,ds,w,v,D,rfl,g,⟨l,vs,rfl,hl,bF,hD⟩,hn,ho,p⟩:=h;refine{_,aA (jX dR.own rfl (jB (pv 1)) (eA (i:=2) scDs.nd rfl (Or.inl rfl)) (aA (e7 (aI G1 hr rfl D1.m D1.F.kp D1.b .nil (dR.passes fun _ _ _ z=>z) (aq (pv 0) (aq (pv 2) ag)))))),?_};refine⟨_,rfl,l,rfl,{_,SqL.of (g.sm _ _ hl)},ko (K:=K) (a:=l) (xs:=vs) (fun i σ G=>∃(W:Ds) (Y:Wk) (u:Option V),σ=[some (.ref L.d),some (.ref l),u]/\Dg CD CS bs qs H0 G L e ds Y/\fK bs qs H0 W (vs.drop i)/\W.deep<n/\Y.len+4*W.size<=w.len+4*D.size /\
  uF cf (fun Y G'=>Dg CD CS bs qs H0 G' L e ds Y) H0 (w.len+4*D.size) (doS e ds W Y) Q E) {D,w,none,rfl,g,hD,hn,ax _,p} ?_ ?_ ?_⟩
 ·rintro i σ G _ ⟨W,Y,u,rfl,g',_⟩;exact SqL.of (g'.sm _ _ hl)
 ·rintro i x σ G hi ⟨W,Y,u,rfl,g',Z,O,J,U⟩;have lt:i<vs.length:=(aG.mp hi).1;have hx:vs[i]=x:=(aG.mp hi).2;rw[zp lt,hx]at Z
  cases W with
  |nil=>
   simp only[fK]at Z
   cases Z
  |cons d r=>
   obtain⟨v0,vr,ev,hd,I⟩:=(by simpa only[fK] using Z)
   cases ev;simp only[Ds.deep]at O;simp only[Ds.size]at J;refine{_,rfl,_,rfl,H0,L,e,ds,Y,x,d,rfl,g',hd,(by omega),(by omega),?_};simp only[doS]at U
   cases ed:doD e ds d Y with
   |error er=>
    rw[ed]at U;exact U
   |ok w2=>
    rw[ed]at U;intro G2 g2 l2;exact{r,w2,_,rfl,g2,I,(by omega),(by omega),U}
 ·rintro σ G ⟨W,Y,u,rfl,g',Z,O,J,U⟩;rw[Jo]at Z
  cases W with
  |nil=>
   simp only[doS]at U;exact U G g' (by omega)
  |cons d r=>
   obtain⟨v0,vr,ev,_⟩:=(by simpa only[fK] using Z)
   cases ev
theorem oI(D:Df K mg "do_deeds" iG ["doing","deeds"] f fd)(Z:Df K mg "do_deed" oq ["doing","deed"] f1 fd1)
  (MF:Mt K CD "fill" "Doing.fill" gT ["self","box","worth"] fF fdF) (Y:Mt K CD "reckon" "Doing.reckon" fu ["self","formula"] fR fdR) (J:bL P w K mg base (CXo P w) 18 fR fdR ["self","formula"] (uH cf CD CS bs qs))
  (DP:Df K mg "do_pull" oz ["doing","name","box","otherwise"] fP fdP) (DU:Df K mg "do_push" oy ["doing","name","formula"] fU fdU) (z:bL P w K mg base (CXo P w) 19 fU fdU ["doing","name","formula"] (BZ cf CD CS bs qs))
  (W:Df K mg "do_draw" oA ["doing","box","formula"] fW fdW) (U:bL P w K mg base (CXo P w) 19 fW fdW ["doing","box","formula"] (zo cf CD CS bs qs)) (O:Df K mg "do_send" oB ["doing","deed"] fS fdS) (GS:bL P w K mg base (CXo P w) 19 fS fdS ["doing","deed"] (B0 cf CD CS bs qs)) (V:Mt K CD "queue_of" "Doing.queue_of" eX ["self","name"] fQ fdQ) (T:DT K mg CD) (g:MdT K mg CM CS) :
  ∀n:Nat,bL P w K mg base (CXo P w) (20+3*n) f fd ["doing","deeds"] (wZ cf CD CS bs qs n)
 |0=>by
  have I:∀vs H Q E,¬wZ cf CD CS bs qs 0 vs H Q E:=fun vs H Q E h=>by
   obtain⟨H0,L,e,ds,w,v,D,_,_,_,hn,_⟩:=h;omega
  exact{fun vs H Q E h=>absurd h (I vs H Q E),fun A outer s H args us vs Q E _ _ _ _ h=>absurd h (I vs H Q E)}
 |n+1=>E1 D Z (Ky (n:=n) (k:=20+3*n) (by omega) Z D (oI D Z MF Y J DP DU z W U O GS V T g n) MF Y J DP DU z W U O GS V T g)
end
end My
namespace L2
open PySem PySem.Spec PyProof.Rows
theorem B1{X:Cx}:jT X (.type "dict") (fun xs H Q=>∃d kvs,xs=[V.ref d]/\H d=some (.dK kvs)/\∀p,H p=none->Q (.ref p) (upd H p (.dK kvs))):=by
 intro pins s σ H xs us Q I r h;obtain⟨d,kvs,rfl,hd,q⟩:=h;obtain⟨u,rfl,ru⟩:=vals1 r
 cases ru;obtain⟨Z,n1,U,k1,W⟩:=(show eP X.prog X.w H s.heap d (.dK kvs) from I.hok d _ hd);refine kt_call_dict (knd:=eZ X.prog X.w) n1 W (by rw[<- k1.length];exact Z) fun h' Y sb=>?_;have kk:∀b o,s.heap.get? b=some o->h'.get? b=some o:=fun b o e=>(sb.2 b (aQ (aP e))).trans (aJ _ e);exact{.ref s.heap.objs.size,_,I.laid (a:=s.heap.objs.size) (o:=.dK kvs) (t':=s.toks) kk (ax _) (yZ Z (beq_eq_false_iff_ne.mpr (gi (aQ I.big))) k1 Y),rfl,q _ (I.hok.fresh (ax _))}
end L2
namespace My
open PySem L2
def jS(CS:aa)(H:Hp)(st:aa)(bx:List (Str×Int))(qu:List (Str×List Int))(dr:Nat)(se:Int):Prop:=
 ∃dx bd qd qa,H st=some (.ins CS dx (pE (.ref bd) (.ref qd) (.int dr) (.int se)))/\H bd=some (.dK (boK bx))/\H qd=some (.dK (quK qa))/\gE H qa qu
theorem gE.same{G G':Hp}(s:bh G G'){qa:List (Str×aa)}{qu:List (Str×List Int)}(q:gE G qa qu):gE G' qa qu:=
 gE.keep (L:={0,0,0,0,0,0,0,0,0,0,.non,.non,qa}) (fun a u e _=>s _ _ e) (fun _ h=>h) q
theorem jS.same{CS:aa}{H H':Hp}(s:bh H H'){st:aa}{bx:List (Str×Int)}{qu:List (Str×List Int)}{dr:Nat}{se:Int}(h:jS CS H st bx qu dr se):jS CS H' st bx qu dr se:=by
 obtain⟨dx,bd,qd,qa,h1,h2,Z,Y⟩:=h;exact{dx,bd,qd,qa,s _ _ h1,s _ _ h2,s _ _ Z,Y.same s}
structure HZ(CS:aa)(H G:Hp)(st:aa)(bx:List (Str×Int))(qu:List (Str×List Int))(dr:Nat)(se:Int)(dxs bd qd:aa)(qa:List (Str×aa)):Prop where
 sm:bh H G
 hst:G st=some (.ins CS dxs (pE (.ref bd) (.ref qd) (.int dr) (.int se)))
 hb:G bd=some (.dK (boK bx))
 hq:G qd=some (.dK (quK qa))
 hl:gE G qa qu
 nd:(st::bd::qd::qa.map (·.2)).Nodup
 fr:∀a∈st::bd::qd::qa.map (·.2),H a=none
inductive Dp(CS:aa)(vs:List V)(H:Hp)(Q:VK)(_e:XK):Prop where
 |mk(st:aa)(bx:List (Str×Int))(qu:List (Str×List Int))(dr:Nat)(se:Int)(_:vs=[.ref st])(_:jS CS H st bx qu dr se)(_:(qu.map (·.1)).Nodup)(_:qu.length<100)(_:∀(G:Hp) (st' dxs bd qd:aa) (qa:List (Str×aa)),HZ CS H G st' bx qu dr se dxs bd qd qa->Q (.ref st') G):Dp CS vs H Q _e
def B2(CS:aa):Sp:=fun vs H Q Z=>Dp CS vs H Q Z
theorem Kz{qa:List (Str×aa)}{x:Str}{l:aa}(h:x∉qa.map (·.1)):iW (quK qa) (Sum.inr x) (.ref l)=quK (qa++[(x,l)]):=by
 have e:qa.lookup x=none:=by
  cases z:qa.lookup x with
  |none=>rfl
  |some a=>exact absurd (cD.mpr {_,qN z,rfl}) h
 unfold iW;have v:jQ (quK qa) (Sum.inr x)=none:=by
  have z:=tM V.ref x qa;rw[e]at z;exact z
 rw[kC,v];show (if false=true then _ else _)=_;rw[if_neg (by decide)];unfold quK;rw[cw];rfl
theorem Dq(qa:List (Str×aa)):(quK qa).length=qa.length:=au _
theorem gE.len{G:Hp}{qa:List (Str×aa)}{qu:List (Str×List Int)}(q:gE G qa qu):qa.length=qu.length:=aZ q
theorem gE.nm{G:Hp}:∀{qa:List (Str×aa)} {qu:List (Str×List Int)},gE G qa qu->qa.map (·.1)=qu.map (·.1)
 |_,_,.nil=>rfl
 |_::_,_::_,.cons a b=>by rw[cg,cg,a.1,gE.nm b]
theorem gE.nth{G:Hp}:∀{qa:List (Str×aa)} {qu:List (Str×List Int)} {i:Nat} {p:Str×aa},gE G qa qu->qa[i]?=some p->∃q,qu[i]?=some q/\p.1=q.1/\G p.2=some (.lst (q.2.map V.int))
 |_,_,i,p,.nil,h=>by simp at h
 |_::_,_::_,0,p,.cons a b,h=>by
  simp at h;subst h;exact{_,rfl,a.1,a.2}
 |_::_,_::_,i+1,p,.cons a b,h=>by
  obtain⟨q,h1,h2⟩:=gE.nth (i:=i) (p:=p) b (by simpa using h);exact{q,by simpa using h1,h2}
section
variable{P:aM}{w:bO}{K:af}{mg:Str->Option ae}{base:cC}{f fI CD CS CM:aa}{fd fdI:bX}
theorem KA:bN ["self","queues","name","worths"] ["self"] (aL iR):={}
theorem ng(F:Fun K "copy" "State.copy" iR f fd)(MS:Mk K CS fI)(FI:Fun K "__init__" "State.__init__" jH fI fdI)(bI:Binds K fdI ["self","boxes","queues","drawn","sent"] [])(B:Bl mg)(T:MdT K mg CM CS) :
  bL P w K mg base CX0 3 f fd ["self"] (B2 CS):=by
 have GI:bL P w K mg base CX0 1 fI fdI ["self","boxes","queues","drawn","sent"] (NS CS):=LI FI T;refine F.ok KA (fun vs H Q E h=>?_) (fun dc A outer s H vs Q E hr h=>?_)
 ·obtain⟨st,bx,qu,dr,se,rfl,_⟩:=h;rfl
 obtain⟨st,bx,qu,dr,se,rfl,⟨dx,bd,qd,qa,hst,hb,hq,hl⟩,ei,lq,k⟩:=h;have hu:=mO hr;refine⟨_,ah (bJ (i:=1) KA.nd rfl (Or.inl rfl) tF)
  (ah (J3 (jX dC rfl (GZ (cV (pv 0) rfl)) (yL rfl (km (eA (i:=2) KA.nd rfl (Or.inl rfl)) (km (eA (i:=3) KA.nd rfl (Or.inl rfl)) vE))) (aA (mQ hu (pv 1) (pv 2) (hZ o4 (by rfl) B.list boot_list (aq (pv 3) ag)) rfl))))
  (aA (bE (j8 MS GI hr (by rfl) T.mS bI .nil bC (aq (hZ B1 (by rfl) B.dict boot_dict (aq (cV (pv 0) rfl) ag)) (aq (pv 1) (aq (cV (pv 0) rfl) (aq (cV (pv 0) rfl) ag)))))))),?_⟩
 intro d hd;have s1:bh H (upd H d (.dK [])):=aE hd _;have nf:∀(ob:Obj) (u:HO),H qd≠some (.frz ob u):=fun ob u z=>by
  rw[hq]at z
  cases z
 have em:d≠qd:=(aw hq hd).symm;have de:(qa.map (·.1)).Nodup:=by
  rw[hl.nm];exact ei
 refine{_,rfl,st,CS,dx,_,_,rfl,s1 _ _ hst,T.clS,T.nQ,Kr _ _ _ _,qd,_,rfl,s1 _ _ hq,nf,fun od=>?_};refine EM (d:=qd) (od:=od) (kvs:=quK qa) (fun i σ G=>∃(v2 v3:Option V) (Z:List (Str×aa)),σ=[some (.ref st),some (.ref d),v2,v3]/\G qd=some (.frz od (.dK (quK qa)))/\(∀b o,H b=some o->b≠qd->G b=some o)/\G d=some (.dK (quK Z)) /\
  gE G Z (qu.take i)/\(Z.map (·.2)).Nodup/\∀a∈Z.map (·.2),H a=none/\a≠d) {none,none,[],rfl,aj,fun b o e n=>?_,?_,?_,iV,fun a h=>by cases h} ?_ ?_ ?_
 ·rw[aN n];exact s1 _ _ e
 ·rw[aN em];exact aj
 ·rw[jV];exact .nil
 ·rintro i σ G _ ⟨_,_,_,_,h1,_⟩;exact h1
 ·rintro i kv t σ G hi ⟨v2,v3,Z,rfl,g1,g2,g3,I,g5,g6⟩ ht;obtain⟨p,hp,rfl⟩:∃p,qa[i]?=some p/\kv=((Sum.inr p.1:Key),V.ref p.2):=by
   unfold quK at hi;rw[cQ]at hi
   cases z:qa[i]? with
   |none=>
    rw[z]at hi
    cases hi
   |some p=>
    rw[z]at hi
    cases hi;exact⟨p,rfl,rfl⟩
  obtain⟨q,ee,ej,ef⟩:=hl.nth hp;have W:=aE ht (.tup [kV (Sum.inr p.1),.ref p.2]);have dz:p.2≠qd:=pO ef hq (by intro z;cases z);refine{t,_,rfl,SqT.of aj,rfl,_,_,rfl,_,_,rfl,rfl,?_};refine{_,rfl,p.2,_,rfl,.inl (SqL.of (W _ _ (g2 _ _ ef dz))),fun l ek=>?_};have sl:=aE ek (.lst (q.2.map V.int));have dt:=sl _ _ (W _ _ g3);have dj:i<qu.length:=(aG.mp ee).1;have tk:(qu.take (i+1))=qu.take i++[q]:=by
   rw[gs,ee];rfl
  have dv:p.1∉Z.map (·.1):=by
   rw[I.nm,ej];intro z;have ea:((qu.take (i+1)).map (·.1)).Nodup:=by
    rw[N6];exact ei.sublist (uW _ _)
   rw[tk,cw]at ea;exact (iJ.mp ea).2.2 _ z q.1 (by simp) rfl
  have eb:(quK Z).length<aB:=by
   have z:=I.len;rw[dH]at z;rw[Dq];have:=d9;omega
  have dp:=uw.k (k:=Sum.inr p.1) (v:=.ref l) dt eb;rw[Kz dv]at dp;refine{_,rfl,_,rfl,d,_,rfl,dp,?_};have Y:G l=none:=by
   cases z:G l with
   |none=>rfl
   |some o=>
    have:=W _ _ z;rw[ek]at this
    cases this
  have dn:H l=none:=by
   cases z:H l with
   |none=>rfl
   |some o=>
    by_cases c:l=qd
    ·rw[c,g1]at Y
     cases Y
    ·rw[g2 _ _ z c]at Y
     cases Y
  have dV:l≠d:=fun z=>by rw[z,g3]at Y;cases Y
  refine{_,_,Z++[(p.1,l)],rfl,?_,fun b o e n=>?_,aj,?_,?_,fun a ha=>?_}
  ·rw[aN em.symm];exact sl _ _ (W _ _ g1)
  ·rw[aN (aw e hd)];exact sl _ _ (W _ _ (g2 _ _ e n))
  ·rw[tk];have old:gE (upd (upd (upd G t (.tup [kV (Sum.inr p.1),.ref p.2])) l (.lst (q.2.map V.int))) d (.dK (quK (Z++[(p.1,l)])))) Z (qu.take i):=
    gE.keep (L:={0,0,0,0,0,0,0,0,0,0,.non,.non,Z}) (fun a u e m=>aW (sl _ _ (W _ _ e)) (g6 a m).2) (fun _ h=>h) I
   exact eR old {ej,aW aj dV}
  ·rw[cw];refine iJ.mpr {g5,by simp,fun a ha b hb=>?_};rw[aD.mp hb];intro z;obtain⟨pp,J,e⟩:=cD.mp ha;obtain⟨j,hj⟩:=dI J;obtain⟨_,_,_,y⟩:=I.nth hj;rw[e,z,Y]at y
   cases y
  ·rw[cw]at ha
   rcases bZ.mp ha with z|z
   ·exact g6 a z
   ·rw[aD.mp z];exact⟨dn,dV⟩
 ·rintro σ G ⟨v2,v3,Z,rfl,g1,g2,g3,I,g5,g6⟩;rw[Dq,hl.len,fg]at I;refine{qd,od,_,g1,nf,?_};have O:bh H (upd G qd (.dK (quK qa))):=fun b o e=>by
   by_cases c:b=qd
   ·rw[c,aj];rw[c,hq]at e;exact e
   ·rw[aN c];exact g2 _ _ e c
  have U:upd G qd (.dK (quK qa)) d=some (.dK (quK Z)):=aW g3 em;have g:gE (upd G qd (.dK (quK qa))) Z qu:=
   gE.keep (L:={0,0,0,0,0,0,0,0,0,0,.non,.non,Z}) (fun a u e m=>aW e (aw hq (g6 a m).1).symm) (fun _ h=>h) I
  generalize upd G qd (.dK (quK qa))=G2 at O U g;refine{_,rfl,st,CS,dx,_,_,rfl,O _ _ hst,T.clS,T.nB,Kq _ _ _ _,bd,_,rfl,O _ _ hb,fun e he=>?_};have s3:=aE he (.dK (boK bx));refine{_,rfl,_,rfl,st,CS,dx,_,_,rfl,s3 _ _ (O _ _ hst),T.clS,T.nD,N2 _ _ _ _,_,rfl,st,CS,dx,_,_,rfl,s3 _ _ (O _ _ hst),T.clS,T.nS,N3 _ _ _ _,?_};intro x el nx dL di;refine{x,el,_,_,_,_,rfl,aj,fun H' hx bt=>{rfl,?_}};have sm:bh (upd G2 e (.dK (boK bx))) H':=fun b o e2=>by
   have cx:b≠x:=aw e2 nx;refine bt b o ?_ cx;rw[aN cx,aN (aw e2 dL)];exact e2
  have D:=s3.trans sm;have fresh:∀{a:aa},upd G2 e (.dK (boK bx)) a=none->H a=none:=fun {a} z=>by
   cases y:H a with
   |none=>rfl
   |some o=>
    rw[s3 _ _ (O _ _ y)]at z
    cases z
  have dG:H e=none:=by
   cases y:H e with
   |none=>rfl
   |some o=>
    rw[O _ _ y]at he
    cases he
  refine k H' x el e d Z {O.trans D,hx,sm _ _ aj,D _ _ U,g.same D,?_,?_}
  ·have ec:x≠e:=(aw (aj:upd G2 e (.dK (boK bx)) e=_) nx).symm;have eh:x≠d:=(aw (s3 _ _ U) nx).symm;have ed:e≠d:=(aw U he).symm;have ql:∀a∈Z.map (·.2),∃o,G2 a=some o:=fun a ha=>by
    obtain⟨pp,J,e⟩:=cD.mp ha;obtain⟨j,hj⟩:=dI J;obtain⟨_,_,_,y⟩:=g.nth hj;rw[<- e];exact{_,y}
   refine cM.mpr {fun z=>?_,cM.mpr {fun z=>?_,cM.mpr {fun z=>(g6 d z).2 rfl,g5}}}
   ·rcases ar.mp z with z|z
    ·exact ec z
    ·rcases ar.mp z with z|z
     ·exact eh z
     ·obtain⟨o,y⟩:=ql x z;exact (aw (s3 _ _ y) nx) rfl
   ·rcases ar.mp z with z|z
    ·exact ed z
    ·obtain⟨o,y⟩:=ql e z;exact (aw y he) rfl
  ·intro a ha
   rcases ar.mp ha with z|z
   ·rw[z];exact fresh nx
   ·rcases ar.mp z with z|z
    ·rw[z];exact dG
    ·rcases ar.mp z with z|z
     ·rw[z];exact hd
     ·exact (g6 a z).1
end
theorem Dg.base{CD CS:aa}{bs qs:List Str}{H0 Z G G':Hp}{L:Lay}{h:Ev}{ds:List Int}{w:Wk}(g:Dg CD CS bs qs H0 G L h ds w)(s:bh G G')(Y:bh H0 Z)(O:bh Z G')(fr:∀a∈L.all,Z a=none):Dg CD CS bs qs Z G' L h ds w:=by
 obtain⟨t,x1,V,J,W,dl,U,hm,hdl⟩:=g.hm;have g':=g.same s;obtain⟨rs,r1,r2⟩:=g'.hr;exact{O,g'.hd,g'.hst,g'.hb,g'.hq,g'.hl,g'.hw,g'.ho,{rs,r1,Paired.mono (fun _ _ z=>z.same Y) r2},g'.hu,g.hh.same Y,{t,x1,V,J,W,dl,U,Y _ _ hm,Y _ _ hdl},g.nd,fr,g.ok,g.wt,g.wa,g.wb}
theorem gE.there{G:Hp}{qa:List (Str×aa)}{qu:List (Str×List Int)}(q:gE G qa qu){a:aa}(h:a∈qa.map (·.2)):∃xs,G a=some (.lst xs):=by
 obtain⟨W,Z,e⟩:=cD.mp h;obtain⟨j,Y⟩:=dI Z;obtain⟨_,_,_,y⟩:=q.nth Y;rw[<- e];exact{_,y}
theorem Dg.there{CD CS:aa}{bs qs:List Str}{H0 G:Hp}{L:Lay}{h:Ev}{ds:List Int}{w:Wk}(g:Dg CD CS bs qs H0 G L h ds w):∀a∈L.all,∃o,G a=some o:=fun a ha=>by
 obtain⟨vs,Z,_⟩:=g.ho;obtain⟨rs,r1,_⟩:=g.hr;unfold Lay.all at ha;simp only[ar]at ha
 rcases ha with rfl|rfl|rfl|rfl|rfl|rfl|rfl|rfl|ha
 ·exact{_,g.hd}
 ·exact{_,g.hst}
 ·exact{_,g.hb}
 ·exact{_,g.hq}
 ·exact{_,g.hw}
 ·exact{_,Z}
 ·exact{_,r1}
 ·exact{_,g.hu}
 ·obtain⟨xs,e⟩:=g.hl.there ha;exact{_,e}
def E2(bs qs:List Str)(H:Hp)(v:V)(p:Str×Ds):Prop:=∃t u,v=.ref t/\H t=some (.tup [.str p.1,u])/\m7 H (fK bs qs H p.2) u
def jK(hs:List (Str×Ds))(sg:Str):Ds:=(hs.lookup sg).getD .nil
theorem E2.same{bs qs:List Str}{H H':Hp}(s:bh H H'){v:V}{p:Str×Ds}(h:E2 bs qs H v p):E2 bs qs H' v p:=by
 obtain⟨t,u,e,h1,h2⟩:=h;exact{t,u,e,s _ _ h1,h2.same s (fK.same s p.2)}
section
variable{P:aM}{w:bO}{K:af}{mg:Str->Option ae}{base:cC}{f fC fI CD CS CM:aa}{fd fdC fdI:bX}{bs qs:List Str}
theorem gu{G:Hp}{a b:aa}{o:HO}(h:upd G a o b=none):b≠a/\G b=none:=by
 by_cases c:b=a
 ·rw[c,aj]at h
  cases h
 ·rw[aN c]at h;exact⟨c,h⟩
theorem AF{G:Hp}{d wd od rd ud a:aa}{i3 U O J I o:HO}(W:G wd=none)(Z:G od=none)(V:G rd=none)(Y:G ud=none)(e:G a=some o)(n:a≠d):upd (upd (upd (upd (upd (upd (upd (upd (upd G d i3) wd (.dK [])) d U) od (.lst [])) d O) rd (.lst [])) d J) ud (.dK [])) d I a=some o:=
 aW (aW (aW (aW (aW (aW (aW (aW (aW e n) (aw e W)) n) (aw e Z)) n) (aw e V)) n) (aw e Y)) n
inductive LR(CD CS:aa)(bs qs:List Str)(vs:List V)(H:Hp)(Q:VK)(_e:XK):Prop where
 |mk(H0:Hp)(d dx st:aa)(m hv:V)(h:Ev)(ds:List Int)(bx:List (Str×Int))(qu:List (Str×List Int))(dr:Nat)(se:Int)(_:vs=[.ref d,m,.ref st,hv])(_:H d=some (.ins CD dx []))(_:H0 d=none)(_:bh H0 H)(_:jS CS H0 st bx qu dr se)(_:ib H0 hv h)(_:(∃t x1 x2 x3 x4 dl,m=.ref t/\H0 t=some (.tup [x1,x2,x3,.ref dl,x4])/\H0 dl=some (.lst (ds.map V.int))))(_:qM bs qs ⟨bx,qu,dr,se,[],[],false,[],[]⟩)(_:Wo h.t)(_:Wo h.a)(_:Wo h.b)(_:∀(G:Hp) (L:Lay),L.d=d->L.m=m->Dg CD CS bs qs H0 G L h ds ⟨bx,qu,dr,se,[],[],false,[],[]⟩->Q .non G):LR CD CS bs qs vs H Q _e
def N7(CD CS:aa)(bs qs:List Str):Sp:=fun vs H Q Z=>LR CD CS bs qs vs H Q Z
theorem scDI:bN ["self","machine","state","happening"] ["self","machine","state","happening"] (aL pf):={}
theorem AG(F:Fun K "__init__" "Doing.__init__" pf f fd)(MC:Mt K CS "copy" "State.copy" iR ["self"] fC fdC)(GC:bL P w K mg base CX0 3 fC fdC ["self"] (B2 CS))(T:DT K mg CD)(TM:MdT K mg CM CS):bL P w K mg base CX0 4 f fd ["self","machine","state","happening"] (N7 CD CS bs qs):=by
 refine F.ok scDI (fun vs H Q E h=>?_) (fun cp A outer s H vs Q E hr h=>?_)
 ·obtain⟨H0,d,dx,st,m,hv,h,ds,bx,qu,dr,se,rfl,_⟩:=h;rfl
 obtain⟨H0,d,dx,st,m,hv,h,ds,bx,qu,dr,se,rfl,hd,dL,s0,hS,hE,hM,ok,wt,wa,wb,k⟩:=h;refine{_,ah (eT (pv 0) (pv 1) rfl) (ah (eT (pv 0) (pv 3) rfl) (ah (eT (pv 0) (jb (pv 2) TM.clS MC.m GC hr MC.b .nil bC) rfl) (ah (eT (pv 0) tF rfl) (ah (eT (pv 0) (eU ag) rfl) (ah (eT (pv 0) oa rfl) (ah (eT (pv 0) (eU ag) rfl) (aA (eT (pv 0) tF rfl)))))))),?_};have l1:=hV "machine" m [];have l2:=hV "happening" hv (cJ "machine" m []);simp only[cy]at l1;refine{_,rfl,_,rfl,d,CD,dx,[],rfl,hd,T.cl,T.nM,(by show 0<1000;decide),?_};refine{_,rfl,_,rfl,d,CD,dx,_,rfl,aj,T.cl,T.nH,(by omega),?_};rw[Cg];have sd:∀(o:HO),bh H0 (upd H d o):=fun o b u e=>by
  rw[aN (aw e dL)];exact s0 _ _ e
 obtain⟨dG,cx,ci,dc,dj,_⟩:=id hS;refine{_,rfl,st,dG,_,rfl,sd _ _ _ dj,st_no _ _ _ _ (by decide +kernel),st,bx,qu,dr,se,rfl,hS.same (sd _),(by rw[ok.kq];exact ok.nq),?_,fun G W dxs bd qd qa N=>?_}
 ·have e:=congrArg jD ok.kq;rw[au]at e;have:=ok.fw;rw[ay]at this;show qu.length<100;have e:qu.length=qs.length:=e;omega
 have gd:G d=some (.ins CD dx (cJ "happening" hv (cJ "machine" m []))):=N.sm _ _ aj;have l3:=hV "state" (.ref W) (cJ "happening" hv (cJ "machine" m []));have l4:=fun wd=>hV "written" (.ref wd) (cJ "state" (.ref W) (cJ "happening" hv (cJ "machine" m [])));have l5:=fun od wd=>hV "outgoing" (.ref od) (cJ "written" (.ref wd) (cJ "state" (.ref W) (cJ "happening" hv (cJ "machine" m []))));refine{_,rfl,d,CD,dx,_,rfl,gd,T.cl,T.nS,(by omega),?_};have l6:=fun od wd=>hV "ends" (.bl false) (cJ "outgoing" (.ref od) (cJ "written" (.ref wd) (cJ "state" (.ref W) (cJ "happening" hv (cJ "machine" m [])))));have l7:=fun rd od wd=>hV "reckoned" (.ref rd) (cJ "ends" (.bl false) (cJ "outgoing" (.ref od) (cJ "written" (.ref wd) (cJ "state" (.ref W) (cJ "happening" hv (cJ "machine" m []))))));intro wd O;obtain⟨J,O⟩:=gu O;refine{_,rfl,d,CD,dx,_,rfl,(by rw[aN J.symm];exact aj),T.cl,T.nW,(by omega),cm _,fun od V=>?_};obtain⟨I,V⟩:=gu V;obtain⟨ea,V⟩:=gu V;obtain⟨_,V⟩:=gu V;have da:=l4 wd;have cr:=l5 od wd;have cv:=l6 od wd;refine{_,rfl,d,CD,dx,_,rfl,(by rw[aN I.symm];exact aj),T.cl,T.nO,(by omega),?_};refine{_,rfl,d,CD,dx,_,rfl,aj,T.cl,T.nE,(by omega),cm _,fun rd Y=>?_};rw[Cg]at Y |-;obtain⟨ef,Y⟩:=gu Y;obtain⟨dz,Y⟩:=gu Y;obtain⟨_,Y⟩:=gu Y;obtain⟨dn,Y⟩:=gu Y;obtain⟨_,Y⟩:=gu Y;have de:=l7 rd od wd;refine{_,rfl,d,CD,dx,_,rfl,(by rw[aN ef.symm];exact aj),T.cl,T.nR,(by omega),?_};intro ud Z;obtain⟨dV,Z⟩:=gu Z;obtain⟨dv,Z⟩:=gu Z;obtain⟨_,Z⟩:=gu Z;obtain⟨dt,Z⟩:=gu Z;obtain⟨_,Z⟩:=gu Z;obtain⟨di,Z⟩:=gu Z;obtain⟨_,Z⟩:=gu Z;refine{_,rfl,d,CD,dx,_,rfl,(by rw[aN dV.symm];exact aj),T.cl,T.nQ,(by omega),?_};rw[NY];have ec:∀{a:aa},G a=none->H0 a=none:=fun {a} z=>by
  cases y:H0 a with
  |none=>rfl
  |some o=>
   rw[N.sm _ _ (sd _ _ _ y)]at z
   cases z
 have U:∀a∈W::bd::qd::qa.map (·.2),H0 a=none/\a≠d:=fun a ha=>by
  have z:=N.fr a ha;have n:a≠d:=fun y=>by
   rw[y,aj]at z
   cases z
  rw[aN n]at z;refine{?_,n}
  cases y:H0 a with
  |none=>rfl
  |some o=>
   rw[s0 _ _ y]at z
   cases z
 have g:∀a∈W::bd::qd::qa.map (·.2),∃o,G a=some o:=fun a ha=>by
  simp only[ar]at ha
  rcases ha with rfl|rfl|rfl|ha
  ·exact{_,N.hst}
  ·exact{_,N.hb}
  ·exact{_,N.hq}
  ·obtain⟨xs,e⟩:=N.hl.there ha;exact{_,e}
 have i1:∀{b:aa} {xs:List aa},b∈b::xs:=aC;have i2:∀{a b:aa} {xs:List aa},b∈xs->b∈a::xs:=fun z=>ak _ z;refine k _ ⟨d,dx,W,dxs,bd,qd,wd,od,rd,ud,m,hv,qa⟩ rfl rfl {fun b o e=>AF O V Y Z (N.sm _ _ (sd _ _ _ e)) (aw e dL),aj,AF O V Y Z N.hst (U _ i1).2,AF O V Y Z N.hb (U _ (i2 i1)).2,AF O V Y Z N.hq (U _ (i2 (i2 i1))).2,?_,?_,{[],?_,.nil},{[],?_,.nil},?_,hE,hM,?_,?_,ok,wt,wa,wb}
 ·exact gE.keep (L:={0,0,0,0,0,0,0,0,0,0,.non,.non,qa}) (fun a u e m=>AF O V Y Z e (U a (i2 (i2 (i2 m)))).2) (fun _ h=>h) N.hl
 ·show upd _ d _ wd=some (.dK []);rw[aN J,aN di.symm,aN J,aN dn.symm,aN J,aN ea.symm,aN J,aj]
 ·show upd _ d _ od=some (.lst []);rw[aN I,aN dt.symm,aN I,aN dz.symm,aN I,aj]
 ·show upd _ d _ rd=some (.lst []);rw[aN ef,aN dv.symm,aN ef,aj]
 ·show upd _ d _ ud=some (.dK []);rw[aN dV,aj]
 ·have nd:=N.nd;have hn:∀{a:aa} {xs:List aa},a∉xs->xs.Nodup->(a::xs).Nodup:=fun p q=>cM.mpr ⟨p,q⟩;obtain⟨n1,nd⟩:=cM.mp nd;obtain⟨n2,nd⟩:=cM.mp nd;obtain⟨n3,nd⟩:=cM.mp nd;simp only[ar,not_or]at n1 n2 n3;have ee:∀a∈W::bd::qd::qa.map (·.2),a≠wd:=fun a ha z=>by
   obtain⟨o,y⟩:=g a ha;rw[z,O]at y
   cases y
  have ed:∀a∈W::bd::qd::qa.map (·.2),a≠od:=fun a ha z=>by
   obtain⟨o,y⟩:=g a ha;rw[z,V]at y
   cases y
  have D:∀a∈W::bd::qd::qa.map (·.2),a≠rd:=fun a ha z=>by
   obtain⟨o,y⟩:=g a ha;rw[z,Y]at y
   cases y
  have eb:∀a∈W::bd::qd::qa.map (·.2),a≠ud:=fun a ha z=>by
   obtain⟨o,y⟩:=g a ha;rw[z,Z]at y
   cases y
  show (d::W::bd::qd::wd::od::rd::ud::qa.map (·.2)).Nodup;refine hn ?_ (hn ?_ (hn ?_ (hn ?_ (hn ?_ (hn ?_ (hn ?_ (hn ?_ nd)))))))
  ·simp only[ar,not_or];exact{fun z=>(U _ i1).2 z.symm,fun z=>(U _ (i2 i1)).2 z.symm,fun z=>(U _ (i2 (i2 i1))).2 z.symm,J.symm,I.symm,ef.symm,dV.symm,fun z=>(U d (i2 (i2 (i2 z)))).2 rfl}
  ·simp only[ar,not_or];exact{n1.1,n1.2.1,ee _ i1,ed _ i1,D _ i1,eb _ i1,n1.2.2}
  ·simp only[ar,not_or];exact{n2.1,ee _ (i2 i1),ed _ (i2 i1),D _ (i2 i1),eb _ (i2 i1),n2.2}
  ·simp only[ar,not_or];exact{ee _ (i2 (i2 i1)),ed _ (i2 (i2 i1)),D _ (i2 (i2 i1)),eb _ (i2 (i2 i1)),n3}
  ·simp only[ar,not_or];exact{ea.symm,dn.symm,di.symm,fun z=>ee wd (i2 (i2 (i2 z))) rfl}
  ·simp only[ar,not_or];exact{dz.symm,dt.symm,fun z=>ed od (i2 (i2 (i2 z))) rfl}
  ·simp only[ar,not_or];exact{dv.symm,fun z=>D rd (i2 (i2 (i2 z))) rfl}
  ·exact fun z=>eb ud (i2 (i2 (i2 z))) rfl
 ·intro a ha;unfold Lay.all at ha;simp only[ar]at ha
  rcases ha with rfl|rfl|rfl|rfl|rfl|rfl|rfl|rfl|ha
  ·exact dL
  ·exact (U _ i1).1
  ·exact (U _ (i2 i1)).1
  ·exact (U _ (i2 (i2 i1))).1
  ·exact ec O
  ·exact ec V
  ·exact ec Y
  ·exact ec Z
  ·exact (U a (i2 (i2 (i2 ha)))).1
inductive LS(bs qs:List Str)(vs:List V)(H:Hp)(Q:VK)(_e:XK):Prop where
 |mk(H0:Hp)(t hl:aa)(x0 x1 x2 x3:V)(hv:List V)(hs:List (Str×Ds))(sg:Str)(_:vs=[.ref t,.str sg])(_:bh H0 H)(_:H0 t=some (.tup [x0,x1,x2,x3,.ref hl]))(_:H0 hl=some (.lst hv))(_:aK (E2 bs qs H0) hv hs)(_:(∀u,m7 H0 (fK bs qs H0 (jK hs sg)) u->Q u H))(_:∀l,H l=none->jK hs sg=.nil->Q (.ref l) (upd H l (.lst []))):LS bs qs vs H Q _e
def N8(bs qs:List Str):Sp:=fun vs H Q Z=>LS bs qs vs H Q Z
theorem scBy:bN ["machine","sign","heard"] ["machine","sign"] (aL ij):={}
theorem oJ{Z Y:Type}{R:Z->Y->Prop}:∀{xs:List Z} {ys:List Y} {i:Nat} {x:Z},aK R xs ys->xs[i]?=some x->∃y,ys[i]?=some y/\R x y
 |_,_,i,x,.nil,h=>by simp at h
 |_,_,0,x,.cons a b,h=>by
  simp at h;subst h;exact{_,rfl,a}
 |_,_,i+1,x,.cons a b,h=>by
  obtain⟨y,h1,h2⟩:=oJ (i:=i) (x:=x) b (by simpa using h);exact{y,by simpa using h1,h2}
theorem ok_by(D:Df K mg "deeds_by_sign" ij ["machine","sign"] f fd):bL P w K mg base CX0 1 f fd ["machine","sign"] (N8 bs qs):=by
 refine D.F.ok scBy (fun vs H Q E h=>?_) (fun J A outer s H vs Q E hr h=>?_)
 ·obtain⟨H0,t,hl,O,x1,V,I,hv,hs,sg,rfl,_⟩:=h;rfl
 obtain⟨H0,t,hl,O,x1,V,I,hv,hs,sg,rfl,sm,ht,hh,W,k1,k2⟩:=h;have ht:=sm _ _ ht;have hh:=sm _ _ hh;refine⟨_,ah (jX dC rfl (jB (bY cA (pv 0) av (fun _ _=>rfl))) (eA (i:=2) scBy.nd rfl (Or.inl rfl)) (aA (cH (bQ fc (bY cA (pv 2) av (fun _ _=>rfl)) (pv 1) (cq _)) (aA (bE (bY cA (pv 2) av (fun _ _=>rfl)))) bP)))
  (aA (bE (eU ag))),?_⟩
 refine{_,rfl,t,_,_,_,rfl,rfl,SqT.of ht,rfl,hl,rfl,{_,SqL.of hh},ko (K:=K) (a:=hl) (xs:=hv) (fun i σ G=>G=H/\(∃u,σ=[some (.ref t),some (.str sg),u])/\jK hs sg=jK (hs.drop i) sg) {rfl,{_,rfl},by rw[rR]} ?_ ?_ ?_}
 ·rintro i σ G _ ⟨rfl,_⟩;exact SqL.of hh
 ·rintro i x σ G hi ⟨rfl,⟨u,rfl⟩,e⟩;obtain⟨p,hp,t',U,rfl,Z,Y⟩:=oJ W hi;have Z:=sm _ _ Z;have lt:i<hs.length:=(aG.mp hp).1;have hx:hs[i]=p:=(aG.mp hp).2;rw[zp lt,hx]at e;obtain⟨pn,pd⟩:=p;refine{_,rfl,t',_,_,_,rfl,rfl,SqT.of Z,rfl,_,rfl,rfl,_,rfl,?_}
  by_cases c:pn=sg
  ·subst c;refine oG (EW _) (gG ?_);refine{_,rfl,t',_,_,_,rfl,rfl,SqT.of Z,rfl,k1 U ?_};rw[e];unfold jK;rw[bT];exact Y
  ·refine oG (vA c) (eE ?_);refine{rfl,{_,rfl},?_};rw[e];unfold jK;rw[cG,beq_eq_false_iff_ne.mpr (fun z=>c z.symm)]
 ·rintro σ G ⟨rfl,⟨u,rfl⟩,e⟩;have ln:=aZ W;rw[ln,Jo]at e;exact{cm _,fun l Y=>k2 l Y e}
end
structure w6(bs qs:List Str)(ds:List Int)(hs:List (Str×Ds))(H:Hp)(m:V):Prop where
 ex:∃(t bl ql dl hl:aa) (nm:V) (vb hv:List V),m=.ref t/\H t=some (.tup [nm,.ref bl,.ref ql,.ref dl,.ref hl])/\H bl=some (.lst vb)/\aK (fun v (x:Str)=>∃a n,v=.ref a/\H a=some (.tup [.str x,n])) vb bs/\H ql=some (.lst (qs.map V.str))/\H dl=some (.lst (ds.map V.int))/\H hl=some (.lst hv)/\aK (E2 bs qs H) hv hs
theorem w6.same{bs qs:List Str}{ds:List Int}{hs:List (Str×Ds)}{H H':Hp}(s:bh H H'){m:V}(h:w6 bs qs ds hs H m):w6 bs qs ds hs H' m:=by
 obtain⟨t,bl,ql,dl,hl,nm,U,hv,e,h1,h2,J,W,Z,Y,O⟩:=h;exact⟨t,bl,ql,dl,hl,nm,U,hv,e,s _ _ h1,s _ _ h2,Paired.mono (fun v x z=>by
  obtain⟨a,n,e,y⟩:=z;exact{a,n,e,s _ _ y}) J,s _ _ W,s _ _ Z,s _ _ Y,Paired.mono (fun _ _ z=>z.same s) O⟩
def wrB(bs:List Str)(w:Wk):List (Str×Int):=(bs.filter fun x=>decide (x∈w.wr)).map fun x=>(x,wY w.bx x)
def wrQ(qs:List Str)(w:Wk):List (Str×List Int):=(qs.filter fun x=>decide (x∈w.wr)).map fun x=>(x,jR w.qu x)
def zq(G:Hp)(v:V)(p:Str×Int):Prop:=∃t,v=.ref t/\G t=some (.tup [.str p.1,.int p.2])
def AH(G:Hp)(v:V)(p:Str×aa):Prop:=∃t,v=.ref t/\G t=some (.tup [.str p.1,.ref p.2])
theorem zq.keep{G G':Hp}(k:∀a xs,G a=some (.tup xs)->G' a=some (.tup xs)){v:V}{p:Str×Int}(h:zq G v p):zq G' v p:=by
 obtain⟨t,e,h1⟩:=h;exact{t,e,k _ _ h1}
theorem AH.keep{G G':Hp}(k:∀a xs,G a=some (.tup xs)->G' a=some (.tup xs)){v:V}{p:Str×aa}(h:AH G v p):AH G' v p:=by
 obtain⟨t,e,h1⟩:=h;exact{t,e,k _ _ h1}
structure WrIn(bs qs:List Str)(w:Wk)(H G:Hp)(wl:aa)(ws1 ws2:List V)(qa:List (Str×aa)):Prop where
 hl:G wl=some (.lst (ws1++ws2))
 b:aK (zq G) ws1 (wrB bs w)
 q:aK (AH G) ws2 qa
 l:gE G qa (wrQ qs w)
 nd:(wl::qa.map (·.2)).Nodup
 fr:∀a∈wl::qa.map (·.2),H a=none
theorem vk{p:Str->Bool}{xs:List Str}{i:Nat}{x:Str}(h:xs[i]?=some x):(xs.take (i+1)).filter p=(xs.take i).filter p++if p x=true then [x] else []:=by
 rw[gs,h,List.filter_append];show _++[x].filter p=_
 by_cases c:p x=true
 ·rw[if_pos c,List.filter_cons_of_pos c];rfl
 ·rw[if_neg c,List.filter_cons_of_neg c];rfl
theorem tQ{H G:Hp}{a:aa}(s:bh H G)(n:H a=none)(o:HO):bh H (upd G a o):=fun b u e=>by
 rw[aN (aw e n)];exact s _ _ e
theorem none_of{H G:Hp}(s:bh H G){a:aa}(n:G a=none):H a=none:=by
 cases z:H a with
 |none=>rfl
 |some o=>
  rw[s _ _ z]at n
  cases n
section
variable{P:aM}{w:bO}{K:af}{mg:Str->Option ae}{base:cC}{f CD CS CM:aa}{fd:bX}{bs qs:List Str}
inductive LU(CD CS:aa)(bs qs:List Str)(vs:List V)(H:Hp)(Q:VK)(_e:XK):Prop where
 |mk(H0:Hp)(L:Lay)(h:Ev)(ds:List Int)(w:Wk)(hs:List (Str×Ds))(_:vs=[.ref L.d])(_:Dg CD CS bs qs H0 H L h ds w)(_:w6 bs qs ds hs H0 L.m)(_:∀(G:Hp) (wl:aa) (ws1 ws2:List V) (qa:List (Str×aa)),bh H G->WrIn bs qs w H G wl ws1 ws2 qa->Q (.ref wl) G):LU CD CS bs qs vs H Q _e
def spWr(CD CS:aa)(bs qs:List Str):Sp:=fun vs H Q Z=>LU CD CS bs qs vs H Q Z
theorem KB:bN ["doing","writes","box","name"] ["doing"] (aL mU):={}
theorem E3(D:Df K mg "writes_of" mU ["doing"] f fd)(T:DT K mg CD)(TM:MdT K mg CM CS)(B:Bl mg):bL P w K mg base CX0 1 f fd ["doing"] (spWr CD CS bs qs):=by
 refine D.F.ok KB (fun vs H Q E h=>?_) (fun bB A outer s H vs Q E hr h=>?_)
 ·obtain⟨H0,L,h,ds,w,hs,rfl,_⟩:=h;rfl
 obtain⟨H0,L,h,ds,w,hs,rfl,g,⟨t,bl,ql,dl,hl,nm,vb,hv,em,ht,ce,pb,cd,hdl,bG,_⟩,k⟩:=h;have hu:=mO hr;refine⟨_,ah (bJ (i:=1) KB.nd rfl (Or.inl rfl) (eU ag))
  (ah (jX dC rfl (jB (bY cA (cV (pv 0) rfl) av (fun _ _=>rfl))) (eA (i:=2) KB.nd rfl (Or.inl rfl)) (aA (cH (qe (Gi hu (bY cA (pv 2) av (fun _ _=>rfl)) (cV (pv 0) rfl)))
   (aA (e7 (pT cF dJ dM iO (pv 1) (aq (dZ (aq (bY cA (pv 2) av (fun _ _=>rfl)) (aq (rp hu (cV (cV (pv 0) rfl) rfl) (bY cA (pv 2) av (fun _ _=>rfl)) (fun _ _=>rfl)) ag))) ag)))) bP)))
  (ah (jX dC rfl (jB (bY cA (cV (pv 0) rfl) av (fun _ _=>rfl))) (eA (i:=3) KB.nd rfl (Or.inl rfl)) (aA (cH (qe (Gi hu (pv 3) (cV (pv 0) rfl)))
   (aA (e7 (pT cF dJ dM iO (pv 1) (aq (dZ (aq (pv 3) (aq (hZ o4 (by rfl) B.list boot_list (aq (rp hu (cV (cV (pv 0) rfl) rfl) (pv 3) (fun _ _=>rfl)) ag)) ag))) ag)))) bP)))
  (aA (bE (pv 1))))),?_⟩
 have big:=d9;have fw:=g.ok.fw;rw[ay]at fw;refine{cm _,fun wl cr=>?_};have s0:=aE cr (.lst []);have ci:∀{G:Hp} (g:Dg CD CS bs qs H0 G L h ds w) (x:Str),pZ G L.wd (.str x) (if x∈w.wr then some (.bl true) else none):=fun {G} g x=>by
  have z:=pZ.k (k:=Sum.inr x) g.hw;rw[Da]at z;exact z
 refine{_,rfl,L.d,CD,L.dx,_,_,rfl,s0 _ _ g.hd,T.cl,T.nM,NX _ _ _ _ _ _ _ _,t,_,_,_,em,rfl,SqT.of (s0 _ _ (g.sm _ _ ht)),rfl,bl,rfl,{_,SqL.of (s0 _ _ (g.sm _ _ ce))},?_};refine ko (K:=K) (a:=bl) (xs:=vb) (fun i σ G=>∃(u:Option V) (ws:List V),σ=[some (.ref L.d),some (.ref wl),u,none]/\bh H G/\G wl=some (.lst ws)/\aK (zq G) ws (((bs.take i).filter fun x=>decide (x∈w.wr)).map fun x=>(x,wY w.bx x))) {none,[],rfl,s0,aj,by rw[jV];exact .nil} ?_ ?_ ?_
 ·rintro i σ G _ ⟨_,_,rfl,sm,_⟩;exact SqL.of (sm _ _ (g.sm _ _ ce))
 ·rintro i x σ G hi ⟨u,ws,rfl,sm,W,U⟩;have g1:=g.same sm;obtain⟨y,hy,a,n,rfl,ha⟩:=oJ pb hi;have ha:=g1.sm _ _ ha;have my:y∈bs:=cB hy;have I:=vk (p:=fun x=>decide (x∈w.wr)) hy;refine{_,rfl,a,_,_,_,rfl,rfl,SqT.of ha,rfl,_,rfl,L.d,CD,L.dx,_,_,rfl,g1.hd,T.cl,T.nW,HI _ _ _ _ _ _ _ _,L.wd,_,rfl,ci g1 y,_,rfl,?_}
  by_cases c:y∈w.wr
  ·rw[if_pos c];rw[if_pos (decide_eq_true c)]at I;refine gG ?_;refine{_,rfl,.inl {rfl,_,SqL.of W},_,rfl,a,_,_,_,rfl,rfl,SqT.of ha,rfl,_,rfl,L.d,CD,L.dx,_,_,rfl,g1.hd,T.cl,T.nS,xQ _ _ _ _ _ _ _ _,L.st,CS,L.dxs,_,_,rfl,g1.hst,TM.clS,TM.nB,Kq _ _ _ _,_,rfl,a,_,_,_,rfl,rfl,SqT.of ha,rfl,L.bd,_,rfl,(by have z:=pZ.k (k:=Sum.inr y) g1.hb;rw[HL (by rw[g1.ok.kb];exact my)]at z;exact z),lt2,fun O cp=>?_};have Z:=aE cp (.tup [.str y,.int (wY w.bx y)]);have lw:=aZ U;have lf:(((bs.take i).filter fun x=>decide (x∈w.wr)).map fun x=>(x,wY w.bx x)).length<=bs.length:=by
    rw[au];refine dB (rA _ _) ?_;rw[dH];omega
   refine{wl,ws,_,rfl,rfl,Z _ _ W,(by omega),_,_,rfl,tQ (sm.trans Z) cr _,aj,?_};rw[I,cw];have kp:∀b xs,upd G O (.tup [.str y,.int (wY w.bx y)]) b=some (.tup xs)->upd (upd G O (.tup [.str y,.int (wY w.bx y)])) wl (.lst (ws++[.ref O])) b=some (.tup xs):=fun b xs z=>aW z (pO z (Z _ _ W) (by intro q;cases q));exact eR (Paired.mono (fun _ _ z=>(z.keep fun b xs e=>Z _ _ e).keep kp) U) {O,rfl,kp _ _ aj}
  ·rw[if_neg c];rw[if_neg (by rw[decide_eq_false c];decide),cL]at I;refine eE {_,ws,rfl,sm,W,?_};rw[I];exact U
 rintro σ G ⟨u,J,rfl,sm,W,U⟩;have g1:=g.same sm;have bH:vb.length=bs.length:=aZ pb;rw[bH,fg]at U;refine{_,rfl,L.d,CD,L.dx,_,_,rfl,g1.hd,T.cl,T.nM,NX _ _ _ _ _ _ _ _,t,_,_,_,em,rfl,SqT.of (g1.sm _ _ ht),rfl,ql,rfl,{_,SqL.of (g1.sm _ _ cd)},?_};refine ko (K:=K) (a:=ql) (xs:=qs.map V.str) (fun i σ G=>∃(u v:Option V) (Y:List V) (qa:List (Str×aa)),σ=[some (.ref L.d),some (.ref wl),u,v]/\bh H G/\G wl=some (.lst (J++Y))/\aK (zq G) J (wrB bs w)/\aK (AH G) Y qa /\
  gE G qa (((qs.take i).filter fun x=>decide (x∈w.wr)).map fun x=>(x,jR w.qu x))/\(wl::qa.map (·.2)).Nodup/\∀a∈wl::qa.map (·.2),H a=none) {_,_,[],[],rfl,sm,by rw[cL];exact W,U,.nil,by rw[jV];exact .nil,by simp,fun a ha=>by rw[aD.mp ha];exact cr} ?_ ?_ ?_
 ·rintro i σ G _ ⟨_,_,_,_,rfl,sm,_⟩;exact SqL.of (sm _ _ (g.sm _ _ cd))
 ·rintro i x σ G hi ⟨u,v,Y,qa,rfl,sm,W,U,pq,pl,nd,fr⟩;have g1:=g.same sm;obtain⟨y,hy,rfl⟩:∃y,qs[i]?=some y/\x=.str y:=by
   rw[cQ]at hi
   cases z:qs[i]? with
   |none=>
    rw[z]at hi
    cases hi
   |some y=>
    rw[z]at hi
    cases hi;exact⟨y,rfl,rfl⟩
  have my:y∈qs:=cB hy;have I:=vk (p:=fun x=>decide (x∈w.wr)) hy;refine{_,rfl,_,rfl,L.d,CD,L.dx,_,_,rfl,g1.hd,T.cl,T.nW,HI _ _ _ _ _ _ _ _,L.wd,_,rfl,ci g1 y,_,rfl,?_}
  by_cases c:y∈w.wr
  ·rw[if_pos c];rw[if_pos (decide_eq_true c)]at I;refine gG ?_;obtain⟨l,h1,h2,h3⟩:=g1.getL my;refine{_,rfl,.inl {rfl,_,SqL.of W},_,rfl,_,rfl,L.d,CD,L.dx,_,_,rfl,g1.hd,T.cl,T.nS,xQ _ _ _ _ _ _ _ _,L.st,CS,L.dxs,_,_,rfl,g1.hst,TM.clS,TM.nQ,Kr _ _ _ _,_,rfl,L.qd,_,rfl,h3,l,_,rfl,.inl (SqL.of h2),fun nl cv=>?_};have sn:=aE cv (.lst ((jR w.qu y).map V.int));refine{lt2,fun O cp=>?_};have Z:=aE cp (.tup [.str y,.ref nl]);have lw:=aZ pq;have lb:=aZ U;have lq:=aZ pl;have lf:(((qs.take i).filter fun x=>decide (x∈w.wr)).map fun x=>(x,jR w.qu x)).length<=qs.length:=by
    rw[au];refine dB (rA _ _) ?_;rw[dH];omega
   have bF:(wrB bs w).length<=bs.length:=by
    unfold wrB;rw[au];exact rA _ _
   have bW:=Z _ _ (sn _ _ W);have bI:nl≠wl:=(aw W cv).symm;have kp:∀b xs,upd (upd G nl (.lst ((jR w.qu y).map V.int))) O (.tup [.str y,.ref nl]) b=some (.tup xs)->upd (upd (upd G nl (.lst ((jR w.qu y).map V.int))) O (.tup [.str y,.ref nl])) wl (.lst (J++Y++[.ref O])) b=some (.tup xs):=fun b xs z=>aW z (pO z bW (by intro q;cases q));refine{wl,_,_,rfl,rfl,bW,(by rw[ay];omega),_,_,Y++[.ref O],qa++[(y,nl)],rfl,tQ ((sm.trans sn).trans Z) cr _,(by rw[<- iK];exact aj),?_,?_,?_,?_,?_}
   ·exact Paired.mono (fun _ _ z=>(z.keep fun b xs e=>Z _ _ (sn _ _ e)).keep kp) U
   ·exact eR (Paired.mono (fun _ _ z=>(z.keep fun b xs e=>Z _ _ (sn _ _ e)).keep kp) pq) {O,rfl,kp _ _ aj}
   ·rw[I,cw];refine eR (gE.keep (L:={0,0,0,0,0,0,0,0,0,0,.non,.non,qa}) (fun a u e m=>aW (Z _ _ (sn _ _ e)) fun z=>?_) (fun _ h=>h) pl) {rfl,aW (Z _ _ aj) bI};rw[z]at m;exact (cM.mp nd).1 m
   ·rw[cw,<- Jp];refine iJ.mpr {nd,by simp,fun a ha b hb=>?_};rw[aD.mp hb];intro z
    rcases ar.mp ha with q|q
    ·exact bI ((show a=nl from z).symm.trans q)
    ·obtain⟨xs,q⟩:=pl.there q;rw[show a=nl from z,cv]at q
     cases q
   ·intro a ha;rw[cw,<- Jp]at ha
    rcases bZ.mp ha with z|z
    ·exact fr a z
    ·rw[aD.mp z];exact none_of sm cv
  ·rw[if_neg c];rw[if_neg (by rw[decide_eq_false c];decide),cL]at I;refine eE {_,_,Y,qa,rfl,sm,W,U,pq,?_,nd,fr};rw[I];exact pl
 rintro σ G ⟨u,v,Y,qa,rfl,sm,W,U,pq,pl,nd,fr⟩;rw[au,fg]at pl;exact{_,rfl,k G wl J Y qa sm ⟨W,U,pq,pl,nd,fr⟩}
end
structure H9(CD CS:aa)(bs qs:List Str)(H G:Hp)(L:Lay)(h:Ev)(ds:List Int)(w:Wk)(t rc wl:aa)(ws1 ws2:List V)(qa:List (Str×aa)):Prop where
 dg:∃H0,bh H H0/\Dg CD CS bs qs H0 G L h ds w
 ht:G t=some (.tup [.ref L.st,.ref rc,.bl w.en])
 hrc:∃k,G rc=some (.tup [.ref k,.int h.to,.str h.sg,.int h.a,.int h.b,.ref wl,.ref L.od])/\H k=some (.tup [.int h.t,.int h.r,.int h.fr,.int h.c])
 wr:WrIn bs qs w H G wl ws1 ws2 qa
 nd:(L.all++wl::qa.map (·.2)).Nodup
theorem H9.sm{CD CS:aa}{bs qs:List Str}{H G:Hp}{L:Lay}{h:Ev}{ds:List Int}{w:Wk}{t W wl:aa}{Z Y:List V}{qa:List (Str×aa)}(n:H9 CD CS bs qs H G L h ds w t W wl Z Y qa):bh H G:=by
 obtain⟨H0,s,g⟩:=n.dg;exact s.trans g.sm
def w0(bx:List (Str×Int))(qu:List (Str×List Int))(dr:Nat)(se:Int):Wk:={bx,qu,dr,se,[],[],false,[],[]}
section
variable{P:aM}{w:bO}{K:af}{mg:Str->Option ae}{base:cC}{f fI fS fB fW fO CD CS CM:aa}{fd fdI fdS fdB fdW fdO:bX}{bs qs:List Str}{cf:Flt->aa}
inductive Dt(cf:Flt->aa)(CM CD CS:aa)(bs qs:List Str)(n:Nat)(vs:List V)(H:Hp)(Q:VK)(E:XK):Prop where
 |mk(m dxm ml st:aa)(fs:List (Str×V))(ms:List V)(hv mv:V)(h:Ev)(ds:List Int)(hs:List (Str×Ds))(bx:List (Str×Int))(qu:List (Str×List Int))(dr:Nat)(se:Int)(_:vs=[.ref m,.ref st,hv])(_:H m=some (.ins CM dxm fs))(_:fs.lookup ("machines":Str)=some (.ref ml))(_:H ml=some (.lst ms))(_:ib H hv h)(_:atI ms h.to=some mv)(_:w6 bs qs ds hs H mv)(_:jS CS H st bx qu dr se)(_:qM bs qs (w0 bx qu dr se))(_:Wo h.t)(_:Wo h.a)(_:Wo h.b)(_:(jK hs h.sg).deep<n)(_:(jK hs h.sg).size<100000) (_:match doS h ds (jK hs h.sg) (w0 bx qu dr se) with
 |.ok w'=>∀(G:Hp) (L:Lay) (t rc wl:aa) (ws1 ws2:List V) (qa:List (Str×aa)),H9 CD CS bs qs H G L h ds w' t rc wl ws1 ws2 qa->Q (.ref t) G
 |.error e=>∀G,bh H G->E (.ref (cf e)) none G):Dt cf CM CD CS bs qs n vs H Q E
def Ia(cf:Flt->aa)(CM CD CS:aa)(bs qs:List Str)(n:Nat):Sp:=fun vs H Q E=>Dt cf CM CD CS bs qs n vs H Q E
theorem by_go{CD CS:aa}{bs qs:List Str}{H G:Hp}{L:Lay}{h:Ev}{ds:List Int}{w:Wk}{W hl:aa}{x0 x1 x2 x3:V}{Y:List V}{hs:List (Str×Ds)}{sg:Str}{D:VK}{E:XK}(g:Dg CD CS bs qs H G L h ds w)(O:H W=some (.tup [x0,x1,x2,x3,.ref hl]))(J:H hl=some (.lst Y))(ph:aK (E2 bs qs H) Y hs)
  (k:∀(H0 U:Hp) (u:V),bh H H0->bh G U->Dg CD CS bs qs H0 U L h ds w->m7 H0 (fK bs qs H0 (jK hs sg)) u->D u U):N8 bs qs [.ref W,.str sg] G D E:=by
 refine{H,W,hl,_,_,_,_,Y,hs,sg,rfl,g.sm,O,J,ph,fun u hu=>k H G u (bh.refl _) (bh.refl _) g hu,fun l Z e=>?_};have sl:=aE Z (.lst []);have nl:=none_of g.sm Z;have I:=aE nl (.lst []);have s1:bh (upd H l (.lst [])) (upd G l (.lst [])):=fun b o z=>by
  by_cases c:b=l
  ·rw[c]at z |-;rw[aj]at z |-;exact z
  ·rw[aN c]at z |-;exact g.sm _ _ z
 refine k _ _ _ I sl (g.base sl I s1 fun a ha=>?_) {l,[],rfl,aj,by show 0<1000;decide,?_}
 ·obtain⟨o,z⟩:=g.there a ha;rw[aN (aw z Z)];exact g.fr a ha
 ·rw[e];simp only[fK]
inductive Ib(cf:Flt->aa)(CM CD CS:aa)(bs qs:List Str)(n:Nat)(vs:List V)(H:Hp)(Q:VK)(E:XK):Prop where
 |mk(m dxm ml st:aa)(fs:List (Str×V))(ms:List V)(hv mv:V)(h:Ev)(ds:List Int)(hs:List (Str×Ds))(bx:List (Str×Int))(qu:List (Str×List Int))(dr:Nat)(se:Int)(_:vs=[.ref m,.ref st,hv])(_:H m=some (.ins CM dxm fs))(_:fs.lookup ("machines":Str)=some (.ref ml))(_:H ml=some (.lst ms))(_:ib H hv h)(_:atI ms h.to=some mv)(_:w6 bs qs ds hs H mv)(_:jS CS H st bx qu dr se)(_:qM bs qs (w0 bx qu dr se))(_:Wo h.t)(_:Wo h.a)(_:Wo h.b)(_:(jK hs h.sg).deep<n)(_:(jK hs h.sg).size<100000) (_:match doS h ds (jK hs h.sg) (w0 bx qu dr se) with
 |.ok w'=>∀(H0 G:Hp) (L:Lay),bh H H0->Dg CD CS bs qs H0 G L h ds w'->L.m=mv->Q (.ref L.d) G
 |.error e=>∀G,bh H G->E (.ref (cf e)) none G):Ib cf CM CD CS bs qs n vs H Q E
def LV(cf:Flt->aa)(CM CD CS:aa)(bs qs:List Str)(n:Nat):Sp:=fun vs H Q E=>Ib cf CM CD CS bs qs n vs H Q E
theorem N9:bN ["model","state","happening","machine","doing"] ["model","state","happening"] (aL pj):={}
theorem Oa{n:Nat}(D:Df K mg "doing_of" pj ["model","state","happening"] f fd)(MD:Mk K CD fI)(bI:Binds K fdI ["self","machine","state","happening"] [])(GI:bL P w K mg base CX0 4 fI fdI ["self","machine","state","happening"] (N7 CD CS bs qs))
  (DS:Df K mg "do_deeds" iG ["doing","deeds"] fS fdS) (GS:bL P w K mg base (CXo P w) (20+3*n) fS fdS ["doing","deeds"] (wZ cf CD CS bs qs n)) (J:Df K mg "deeds_by_sign" ij ["machine","sign"] fB fdB) (T:DT K mg CD) (TM:MdT K mg CM CS) :
  bL P w K mg base (CXo P w) (20+3*n+1) f fd ["model","state","happening"] (LV cf CM CD CS bs qs n):=by
 have GB:bL P w K mg base CX0 1 fB fdB ["machine","sign"] (N8 bs qs):=ok_by J;refine D.F.okX N9 (fun vs H Q E h=>?_) (fun dt A outer s H vs Q E hr h=>?_)
 ·obtain⟨m,W,ml,st,fs,ms,hv,mv,h,ds,hs,bx,qu,dr,se,rfl,_⟩:=h;rfl
 obtain⟨m,W,ml,st,fs,ms,hv,mv,h,ds,hs,bx,qu,dr,se,rfl,hm,ed,eb,hE,ef,hM,hS,ok,wt,wa,wb,dn,sz,p⟩:=h;have r1:cZ 1 _:=hr.mono (by omega);have r5:cZ 5 _:=hr.mono (by omega);refine⟨_,ah (bJ (i:=3) N9.nd rfl (Or.inl rfl) (bY dO (cV (pv 0) rfl) (bY cA (pv 2) av (fun _ _=>rfl)) (fun _ _=>rfl)))
  (ah (bJ (i:=4) N9.nd rfl (Or.inl rfl) (j8 MD GI r5 (by rfl) T.mD bI .nil bC (aq (pv 3) (aq (pv 1) (aq (pv 2) ag)))))
  (ah (e7 (aI GS hr (by rfl) DS.m DS.F.kp DS.b .nil (dR.passes fun _ _ _ z=>z) (aq (pv 4) (aq (aI GB r1 (by rfl) J.m J.F.kp J.b .nil bC (aq (pv 3) (aq (bY cA (pv 2) av (fun _ _=>rfl)) ag))) ag))))
  (aA (bE (pv 4))))),?_⟩
 obtain⟨th,kh,rfl,O,dv⟩:=id hE;obtain⟨tm,bl,ql,dl,hl,nm,vb,dz,rfl,V,dV,pb,dL,hdl,ec,ph⟩:=hM.ex;refine{_,rfl,m,CM,W,_,_,rfl,hm,TM.clM,TM.nM,ed,_,rfl,th,_,_,_,rfl,rfl,SqT.of O,rfl,ml,_,_,_,rfl,rfl,SqL.of eb,ef,?_};refine{_,rfl,_,rfl,_,rfl,?_};intro d dx Y I dG;have sA:bh H (upd (upd H dx (.own d)) d (.ins CD dx [])):=fun b o e=>by
  rw[aN (aw e Y),aN (aw e I)];exact e
 refine{H,d,dx,st,.ref tm,.ref th,h,ds,bx,qu,dr,se,rfl,aj,Y,sA,hS,hE,{tm,_,_,_,_,dl,rfl,V,hdl},ok,wt,wa,wb,fun G L eL em g=>{rfl,?_}};have ea:=g.sm _ _ O;refine{_,rfl,_,rfl,_,rfl,th,_,_,_,rfl,rfl,SqT.of ea,rfl,?_};subst eL;refine by_go (E:=E0) g V ec ph fun H0 G1 u s0 s1 g1 hu=>?_;refine{H0,L,h,ds,w0 bx qu dr se,u,jK hs h.sg,rfl,g1,hu,dn,(by show 0+_<_;omega),?_};have ee:∀{dg:Wk->Hp->Prop} {r:Except Flt Wk} {Q1:VK} {k:Nat},r=doS h ds (jK hs h.sg) (w0 bx qu dr se)->(∀U Z,r=.ok U->dg U Z->Q1 .non Z)->uF cf dg H0 k r Q1 E:=fun {dg r Q1 k} e q=>by
  cases r with
  |ok U=>exact fun Z g2 _=>q U Z rfl g2
  |error er=>
   rw[<- e]at p;exact fun Z s2=>p Z (s0.trans s2)
 refine ee rfl fun U Z ew g2=>?_;rw[ew]at p;exact{_,rfl,p H0 Z L s0 g2 em}
theorem Ob:bN ["model","state","happening","doing","record"] ["model","state","happening"] (aL zh):={}
theorem tR{n:Nat}(D:Df K mg "done" zh ["model","state","happening"] f fd)(U:Df K mg "doing_of" pj ["model","state","happening"] fO fdO)(MD:Mk K CD fI)(bI:Binds K fdI ["self","machine","state","happening"] [])(GI:bL P w K mg base CX0 4 fI fdI ["self","machine","state","happening"] (N7 CD CS bs qs))
  (DS:Df K mg "do_deeds" iG ["doing","deeds"] fS fdS) (GS:bL P w K mg base (CXo P w) (20+3*n) fS fdS ["doing","deeds"] (wZ cf CD CS bs qs n)) (DB:Df K mg "deeds_by_sign" ij ["machine","sign"] fB fdB) (O:Df K mg "writes_of" mU ["doing"] fW fdW) (T:DT K mg CD) (TM:MdT K mg CM CS) (B:Bl mg) :
  bL P w K mg base (CXo P w) (20+3*n+2) f fd ["model","state","happening"] (Ia cf CM CD CS bs qs n):=by
 have GO:bL P w K mg base (CXo P w) (20+3*n+1) fO fdO ["model","state","happening"] (LV cf CM CD CS bs qs n):=Oa U MD bI GI DS GS DB T TM;have GW:bL P w K mg base CX0 1 fW fdW ["doing"] (spWr CD CS bs qs):=E3 O T TM B;refine D.F.okX Ob (fun vs H Q E h=>?_) (fun dv A outer s H vs Q E hr h=>?_)
 ·obtain⟨m,W,ml,st,fs,ms,hv,mv,h,ds,hs,bx,qu,dr,se,rfl,_⟩:=h;rfl
 obtain⟨m,W,ml,st,fs,ms,hv,mv,h,ds,hs,bx,qu,dr,se,rfl,hm,ea,dV,hE,eb,hM,hS,ok,wt,wa,wb,dn,sz,p⟩:=h;have r1:cZ 1 _:=hr.mono (by omega);refine⟨_,ah (bJ (i:=3) Ob.nd rfl (Or.inl rfl) (aI GO hr (by rfl) U.m U.F.kp U.b .nil (dR.passes fun _ _ _ z=>z) (aq (pv 0) (aq (pv 1) (aq (pv 2) ag)))))
  (ah (bJ (i:=4) Ob.nd rfl (Or.inl rfl) (cR Cw (pv 2) (dZ (aq (aI GW r1 (by rfl) O.m O.F.kp O.b .nil bC (aq (pv 3) ag)) (aq (cV (pv 3) rfl) ag)))))
  (aA (bE (dZ (aq (cV (pv 3) rfl) (aq (pv 4) (aq (cV (pv 3) rfl) ag))))))),?_⟩
 obtain⟨th,kh,rfl,dz,dG⟩:=id hE;refine{_,rfl,_,rfl,_,rfl,m,W,ml,st,fs,ms,_,mv,h,ds,hs,bx,qu,dr,se,rfl,hm,ea,dV,hE,eb,hM,hS,ok,wt,wa,wb,dn,sz,?_}
 cases ew:doS h ds (jK hs h.sg) (w0 bx qu dr se) with
 |error e=>
  rw[ew]at p;exact p
 |ok w'=>
 rw[ew]at p;intro H0 G2 L J Y em;have V:=Y.sm _ _ (J _ _ dz);have gM:w6 bs qs ds hs H0 L.m:=by
  rw[em];exact hM.same J
 refine{_,rfl,_,rfl,H0,L,h,ds,w',hs,rfl,Y,gM,fun G3 wl I g qa s3 wr=>?_};have g3:=Y.same s3;refine{_,rfl,L.d,CD,L.dx,_,_,rfl,g3.hd,T.cl,T.nO,dF_o _ _ _ _ _ _ _ _,lt2,fun tt dL=>?_};have s4:=aE dL (.tup [.ref wl,.ref L.od]);refine{th,tt,_,_,rfl,rfl,SqT.of (s4 _ _ (s3 _ _ V)),SqT.of aj,(by intro z;cases z),(by show 7<=aB;decide),(fun z=>by cases z),fun _ rc hrc=>?_};have s5:=aE hrc (.tup [.ref kh,.int h.to,.str h.sg,.int h.a,.int h.b,.ref wl,.ref L.od]);have g5:=(g3.same s4).same s5;refine{_,rfl,L.d,CD,L.dx,_,_,rfl,g5.hd,T.cl,T.nS,xQ _ _ _ _ _ _ _ _,_,rfl,_,rfl,L.d,CD,L.dx,_,_,rfl,g5.hd,T.cl,T.nE,dF_e _ _ _ _ _ _ _ _,(by show 3<=aB;decide),fun t ht=>?_};have s6:=aE ht (.tup [.ref L.st,.ref rc,.bl w'.en]);have Z:=(s4.trans s5).trans s6;refine p _ L t rc wl I g qa {{H0,J,g5.same s6},aj,{kh,s6 _ _ aj,dG},{Z _ _ wr.hl,Paired.mono (fun _ _ z=>z.keep fun b xs e=>Z _ _ e) wr.b,Paired.mono (fun _ _ z=>z.keep fun b xs e=>Z _ _ e) wr.q,wr.l.same Z,wr.nd,fun a ha=>none_of (J.trans Y.sm) (wr.fr a ha)},?_};refine iJ.mpr {Y.nd,wr.nd,fun a ha b hb z=>?_};obtain⟨o,y⟩:=Y.there a ha;rw[z,wr.fr b hb]at y
 cases y
end
theorem bU{t u:TS}{D:nv}{σ:St}{H:Hp}(h:t {D with nx:=u D} σ H):M9 t u D σ H:=h
theorem cO{te:TE}{g:TG}{D:nv}{σ:St}{H:Hp}(h:te σ H fun x H1=>g x σ H1 D.nx):Jx te g D σ H:=h
theorem bK{i:Nat}{v:V}{σ:St}{H:Hp}{Q:St->Hp->Prop}(h:Q (σ.set i (some v)) H):Cj i v σ H Q:=h
theorem uI{C:aa}{sp:Sp}{dvs:List V}{E:XK}{t:TA}{σ:St}{H:Hp}{Q:VK} (h:t σ H fun vs H1=>∀x dx,H1 x=none->H1 dx=none->dx≠x ->
  sp (.ref x::(vs++dvs)) (upd (upd H1 dx (.own x)) x (.ins C dx [])) (fun v H2=>v=.non/\Q (.ref x) H2) E):Lq C sp dvs E t σ H Q:=h
section
variable{X:Cx}{e:cU}{ta:TE}{f:Str}{pos:Pos}
theorem d7(K:af)(Z:X.K=K)(Y:PE X e ta)(hb:me e f X.env (gf e X.env)=gf e X.env):PE X (.Attribute e f pos) (Nh K ta f):=by
 rw[<- Z];exact cV Y hb
theorem AI(K:af)(Z:X.K=K):jT X (.type "list") (fun xs H Q=>∃p ys,xs=[.ref p]/\(SqL K H p ys\/SqT K H p ys)/\∀l,H l=none->Q (.ref l) (upd H l (.lst ys))):=by
 rw[<- Z];exact o4
end
theorem Du{H:Hp}{n:Nat}{t:aa}{xs:List V}(ht:H t=some (.tup xs)\/H t=some (.lst xs))(T:Tree H n (.ref t)):∃m,n=m+1/\∀x∈xs,Tree H m x:=by
 cases n with
 |zero=>exact T.elim
 |succ m=>
  refine{m,rfl,?_}
  rcases T with T|⟨p,ys,e,h1,_,h2⟩
  ·exact T.elim
  ·cases e;have Z:xs=ys:=by
    rcases ht with ht|ht<;>rcases h1 with h1|h1<;>rw[ht]at h1<;>cases h1<;>rfl
   rw[Z];exact h2
theorem iY{H H':Hp}{n:Nat}{t:aa}{xs:List V}{Z:V}(ht:H t=some (.tup xs))(T:Tree H n (.ref t))(Y:Alike H H' n (.ref t) Z):∃m t' ys,Z=.ref t'/\H' t'=some (.tup ys)/\aK (Alike H H' m) xs ys/\∀x∈xs,Tree H m x:=by
 obtain⟨m,rfl,h⟩:=Du (.inl ht) T;obtain⟨t',ys,e,h1,h2⟩:=uD ht Y;exact⟨m,t',ys,e,h1,h2,h⟩
theorem w8{H H':Hp}{n:Nat}{t:aa}{xs:List V}{Z:V}(ht:H t=some (.lst xs))(T:Tree H n (.ref t))(Y:Alike H H' n (.ref t) Z):∃m t' ys,Z=.ref t'/\H' t'=some (.lst ys)/\aK (Alike H H' m) xs ys/\∀x∈xs,Tree H m x:=by
 obtain⟨m,rfl,h⟩:=Du (.inr ht) T;obtain⟨t',ys,e,h1,h2⟩:=oF ht Y;exact⟨m,t',ys,e,h1,h2,h⟩
theorem dN{R:V->V->Prop}{x:V}{xs ys:List V}(r:aK R (x::xs) ys):∃y Z,ys=y::Z/\R x y/\aK R xs Z:=by
 cases r with
 |cons a b=>exact{_,_,rfl,a,b}
theorem oK{R:V->V->Prop}{ys:List V}(r:aK R [] ys):ys=[]:=by
 cases r;rfl
theorem jz.alike{bs qs:List Str}{H H':Hp}{v:V}{F:Fm}(h:jz bs qs H v F):∀{n:Nat} {W:V},Tree H n v->Alike H H' n v W->jz bs qs H' W F:=by
 induction h with
 |num h1 h2=>
  intro n W T Y;obtain⟨m,t',ys,rfl,g1,Z,_⟩:=iY h1 T Y;rw[iS Z (by intro x hx;simp only[ar,aV,or_false]at hx;rcases hx with rfl|rfl<;>exact trivial)]at g1;exact .num g1 h2
 |box h1 h2=>
  intro n W T Y;obtain⟨m,t',ys,rfl,g1,Z,_⟩:=iY h1 T Y;rw[iS Z (by intro x hx;simp only[ar,aV,or_false]at hx;rcases hx with rfl|rfl<;>exact trivial)]at g1;exact .box g1 h2
 |long h1 h2=>
  intro n W T Y;obtain⟨m,t',ys,rfl,g1,Z,_⟩:=iY h1 T Y;rw[iS Z (by intro x hx;simp only[ar,aV,or_false]at hx;rcases hx with rfl|rfl<;>exact trivial)]at g1;exact .long g1 h2
 |got h1=>
  intro n W T Y;obtain⟨m,t',ys,rfl,g1,Z,_⟩:=iY h1 T Y;rw[iS Z (by intro x hx;simp only[ar,aV,or_false]at hx;rcases hx with rfl|rfl<;>exact trivial)]at g1;exact .got g1
 |now h1=>
  intro n W T Y;obtain⟨m,t',ys,rfl,g1,Z,_⟩:=iY h1 T Y;rw[iS Z (by intro x hx;rw[aD.mp hx];exact trivial)]at g1;exact .now g1
 |two h1 h2 _ _ i1 i2=>
  intro n W T Y;obtain⟨m,t',ys,rfl,g1,Z,tr⟩:=iY h1 T Y;obtain⟨I,U,rfl,J,Z⟩:=dN Z;obtain⟨D,U,rfl,a1,Z⟩:=dN Z;obtain⟨z,U,rfl,a2,Z⟩:=dN Z;obtain rfl:=oK Z;have O:=fJ (v:=.str _) trivial J;rw[O]at g1;exact .two g1 h2 (i1 (tr _ (by simp)) a1) (i2 (tr _ (by simp)) a2)
theorem FmI.alike{bs qs:List Str}{H H':Hp}{v Z:V}{F:Fm}{n:Nat}(h:FmI bs qs H v F)(T:Tree H n v)(Y:Alike H H' n v Z):FmI bs qs H' Z F:={h.1.alike T Y,h.2}
theorem m7.alike{H H':Hp}{R Y:List V->Prop}{v Z:V}{n:Nat}(h:m7 H R v)(T:Tree H n v)(U:Alike H H' n v Z)(k:∀m vs ys,R vs->aK (Alike H H' m) vs ys->(∀x∈vs,Tree H m x)->Y ys):m7 H' Y Z:=by
 obtain⟨l,vs,rfl,h1,h2,O⟩:=h;obtain⟨m,t',ys,rfl,g1,W,tr⟩:=w8 h1 T U;exact{t',ys,rfl,g1,by rw[<- aZ W];exact h2,k m vs ys O W tr}
mutual
theorem eO.alike{bs qs:List Str}{H H':Hp}:∀(d:Dd) (v J:V) (n:Nat),eO bs qs H d v->Tree H n v->Alike H H' n v J->eO bs qs H' d J
 |.put x f,v,J,n,h,T,U=>by
  obtain⟨t,u,rfl,h1,h2,O⟩:=(by simpa only[eO] using h);obtain⟨m,t',ys,rfl,g1,Z,tr⟩:=iY h1 T U;obtain⟨z,Y,rfl,W,Z⟩:=dN Z;obtain⟨D,Y,rfl,a1,Z⟩:=dN Z;obtain⟨I,Y,rfl,a2,Z⟩:=dN Z;obtain rfl:=oK Z;rw[fJ (v:=.str _) trivial W,fJ (v:=.str _) trivial a1]at g1;simp only[eO];exact{t',I,rfl,g1,h2,O.alike (tr _ (by simp)) a2}
 |.push x f,v,J,n,h,T,U=>by
  obtain⟨t,u,rfl,h1,h2,O⟩:=(by simpa only[eO] using h);obtain⟨m,t',ys,rfl,g1,Z,tr⟩:=iY h1 T U;obtain⟨z,Y,rfl,W,Z⟩:=dN Z;obtain⟨D,Y,rfl,a1,Z⟩:=dN Z;obtain⟨I,Y,rfl,a2,Z⟩:=dN Z;obtain rfl:=oK Z;rw[fJ (v:=.str _) trivial W,fJ (v:=.str _) trivial a1]at g1;simp only[eO];exact{t',I,rfl,g1,h2,O.alike (tr _ (by simp)) a2}
 |.pull q x o,v,J,n,h,T,U=>by
  obtain⟨t,u,rfl,h1,h2,O,h4⟩:=(by simpa only[eO] using h);obtain⟨m,t',ys,rfl,g1,Z,tr⟩:=iY h1 T U;obtain⟨z,Y,rfl,W,Z⟩:=dN Z;obtain⟨D,Y,rfl,a1,Z⟩:=dN Z;obtain⟨I,Y,rfl,a2,Z⟩:=dN Z;obtain⟨g,Y,rfl,a3,Z⟩:=dN Z;obtain rfl:=oK Z;rw[fJ (v:=.str _) trivial W,fJ (v:=.str _) trivial a1,fJ (v:=.str _) trivial a2]at g1;simp only[eO];exact{t',g,rfl,g1,h2,O,h4.alike (tr _ (by simp)) a3 fun m vs ys a b c=>fK.alike o vs ys m a b c}
 |.draw x f,v,J,n,h,T,U=>by
  obtain⟨t,u,rfl,h1,h2,O⟩:=(by simpa only[eO] using h);obtain⟨m,t',ys,rfl,g1,Z,tr⟩:=iY h1 T U;obtain⟨z,Y,rfl,W,Z⟩:=dN Z;obtain⟨D,Y,rfl,a1,Z⟩:=dN Z;obtain⟨I,Y,rfl,a2,Z⟩:=dN Z;obtain rfl:=oK Z;rw[fJ (v:=.str _) trivial W,fJ (v:=.str _) trivial a1]at g1;simp only[eO];exact{t',I,rfl,g1,h2,O.alike (tr _ (by simp)) a2}
 |.send to sg sp rk a b,v,J,n,h,T,U=>by
  obtain⟨t,u,u1,u2,rfl,h1,h2,O,h4⟩:=(by simpa only[eO] using h);obtain⟨m,t',ys,rfl,g1,Z,tr⟩:=iY h1 T U;obtain⟨z,Y,rfl,W,Z⟩:=dN Z;obtain⟨D,Y,rfl,a1,Z⟩:=dN Z;obtain⟨I,Y,rfl,a2,Z⟩:=dN Z;obtain⟨g,Y,rfl,a3,Z⟩:=dN Z;obtain⟨y4,Y,rfl,a4,Z⟩:=dN Z;obtain⟨y5,Y,rfl,a5,Z⟩:=dN Z;obtain⟨y6,Y,rfl,a6,Z⟩:=dN Z;obtain rfl:=oK Z;rw[fJ (v:=.str _) trivial W,fJ (v:=.int _) trivial a1,fJ (v:=.str _) trivial a2,fJ (v:=.int _) trivial a4]at g1;simp only[eO];exact{t',g,y5,y6,rfl,g1,h2.alike (tr _ (by simp)) a3,O.alike (tr _ (by simp)) a5,h4.alike (tr _ (by simp)) a6}
 |.ife f x y,v,J,n,h,T,U=>by
  obtain⟨t,u,u1,u2,rfl,h1,h2,O,h4⟩:=(by simpa only[eO] using h);obtain⟨m,t',ys,rfl,g1,Z,tr⟩:=iY h1 T U;obtain⟨z,Y,rfl,W,Z⟩:=dN Z;obtain⟨D,Y,rfl,a1,Z⟩:=dN Z;obtain⟨I,Y,rfl,a2,Z⟩:=dN Z;obtain⟨g,Y,rfl,a3,Z⟩:=dN Z;obtain rfl:=oK Z;rw[fJ (v:=.str _) trivial W]at g1;simp only[eO];exact{t',D,I,g,rfl,g1,h2.alike (tr _ (by simp)) a1,O.alike (tr _ (by simp)) a2 fun m vs ys a b c=>fK.alike x vs ys m a b c,h4.alike (tr _ (by simp)) a3 fun m vs ys a b c=>fK.alike y vs ys m a b c}
 |.fin,v,J,n,h,T,U=>by
  obtain⟨t,rfl,h1⟩:=(by simpa only[eO] using h);obtain⟨m,t',ys,rfl,g1,Z,tr⟩:=iY h1 T U;obtain⟨z,Y,rfl,W,Z⟩:=dN Z;obtain rfl:=oK Z;rw[fJ (v:=.str _) trivial W]at g1;simp only[eO];exact⟨t',rfl,g1⟩
theorem fK.alike{bs qs:List Str}{H H':Hp}:∀(d:Ds) (vs ys:List V) (n:Nat),fK bs qs H d vs->aK (Alike H H' n) vs ys->(∀x∈vs,Tree H n x)->fK bs qs H' d ys
 |.nil,vs,ys,n,h,Z,T=>by
  have e:vs=[]:=by simpa only[fK] using h
  subst e;obtain rfl:=oK Z;simp only[fK]
 |.cons d r,vs,ys,n,h,Z,T=>by
  obtain⟨v,W,rfl,h1,h2⟩:=(by simpa only[fK] using h);obtain⟨y,Y,rfl,a,b⟩:=dN Z;simp only[fK];exact{y,Y,rfl,eO.alike d v y n h1 (T v aC) a,fK.alike r W Y n h2 b fun x hx=>T x (ak _ hx)}
end
theorem rB{U:Type}{R W:V->U->Prop}{S:V->V->Prop}{T:V->Prop}(f:∀v a Y,R v a->S v Y->T v->W Y a):∀{xs ys:List V} {Z:List U},aK R xs Z->aK S xs ys->(∀x∈xs,T x)->aK W ys Z:=by
 intro xs ys Z p
 induction p generalizing ys with
 |nil=>
  intro q _
  cases q;exact .nil
 |cons a b O=>
  intro q t
  cases q with
  |cons c d=>exact .cons (f _ _ _ a c (t _ aC)) (O d fun x hx=>t x (ak _ hx))
theorem w6.alike{bs qs:List Str}{ds:List Int}{hs:List (Str×Ds)}{H H':Hp}{v Y:V}{n:Nat}(h:w6 bs qs ds hs H v)(T:Tree H n v)(al:Alike H H' n v Y):w6 bs qs ds hs H' Y:=by
 obtain⟨t,bl,ql,dl,hl,nm,vb,hv,rfl,h1,h2,h3,h4,h5,h6,h7⟩:=h.ex;obtain⟨m,t',ys,rfl,g1,Z,tr⟩:=iY h1 T al;obtain⟨y0,W,rfl,a0,Z⟩:=dN Z;obtain⟨y1,W,rfl,a1,Z⟩:=dN Z;obtain⟨y2,W,rfl,a2,Z⟩:=dN Z;obtain⟨y3,W,rfl,a3,Z⟩:=dN Z;obtain⟨y4,W,rfl,a4,Z⟩:=dN Z;obtain rfl:=oK Z;obtain⟨m1,b',D,rfl,c1,d1,t1⟩:=w8 h2 (tr _ (by simp)) a1;obtain⟨m2,q',dL,rfl,c2,d2,t2⟩:=w8 h4 (tr _ (by simp)) a2;obtain⟨m3,e',dV,rfl,c3,d3,t3⟩:=w8 h5 (tr _ (by simp)) a3;obtain⟨m4,f',U,rfl,c4,d4,t4⟩:=w8 h6 (tr _ (by simp)) a4;rw[iS d2 (by intro x hx;obtain⟨z,_,rfl⟩:=cD.mp hx;exact trivial)]at c2;rw[iS d3 (by intro x hx;obtain⟨z,_,rfl⟩:=cD.mp hx;exact trivial)]at c3;refine{t',b',q',e',f',y0,D,U,rfl,g1,c1,rB (fun v a Y x y z=>?_) h3 d1 t1,c2,c3,c4,rB (fun v a Y x y z=>?_) h7 d4 t4}
 ·obtain⟨p,k,rfl,hp⟩:=x;obtain⟨m',J,ws,rfl,k1,k2,_⟩:=iY hp z y;obtain⟨w0,wr,rfl,I,k2⟩:=dN k2;obtain⟨g,wr,rfl,b1,k2⟩:=dN k2;obtain rfl:=oK k2;rw[fJ (v:=.str _) trivial I]at k1;exact⟨J,g,rfl,k1⟩
 ·obtain⟨p,u,rfl,hp,hu⟩:=x;obtain⟨m',J,ws,rfl,k1,k2,O⟩:=iY hp z y;obtain⟨w0,wr,rfl,I,k2⟩:=dN k2;obtain⟨g,wr,rfl,b1,k2⟩:=dN k2;obtain rfl:=oK k2;rw[fJ (v:=.str _) trivial I]at k1;exact{J,g,rfl,k1,hu.alike (O _ (by simp)) b1 fun m vs ys a b c=>fK.alike _ vs ys m a b c}
def LW(K:af):List V->Hp->VK->Prop:=fun xs H Q=>∃p ys,xs=[.ref p]/\(SqL K H p ys\/SqT K H p ys)/\Q (.int ys.length) H
theorem eu{X:Cx}(K:af)(Z:X.K=K):jT X (.builtin "len") (LW K):=by
 rw[<- Z];exact ig
theorem Ic{X:Cx}(K:af)(Z:X.K=K):IxR X (Nn K):=by
 rw[<- Z];exact dO
theorem pG{X:Cx}(K:af)(Z:X.K=K):IxR X (rIxT K):=by
 rw[<- Z];exact cA
theorem KC{X:Cx}{pos:Pos}{es:List cU}{k:Nat}{t:TGs}{n:Nat}(K:af)(Z:X.K=K)(hc:X.calm=true)(h:PGs X es t)
  (Y:(lG es X.env).length=n:=by rfl) (hst:(lG es X.env).findIdx? (·.1)=none:=by rfl):PG X (.Tuple es k pos) (gTup K n t):=by
 rw[<- Z];exact yL hc h Y hst
theorem B3:1<=aB:=by decide
theorem eW{te:TE}{D:nv}{σ:St}{H:Hp}(h:te σ H D.rt):tRet te D σ H:=h
theorem E4{K:af}{m C dx U:aa}{fs:List (Str×V)}{f:Str}{ms:List V}{n i:Nat}{g:TG}{tc:L2.TT}{te:TE}{σ:St}{H:Hp}{Q:VK}(hv:σ[i]?=some (some (.ref m)))(hm:H m=some (.ins C dx fs))(cl:Cls K C)(na:eM K C f)(lk:fs.lookup f=some (.ref U))(O:H U=some (.lst ms))(I:ms.length<1000)
  (Z:Nat->List V->Hp->Prop) (h0:Z 0 [] H) (hl:∀i ys H,i<=ms.length->Z i ys H->ys.length<aB)
  (hs:∀i ys H,i<ms.length->Z i ys H->g (.int (0+i)) (cI n none++σ) H fun W H2=>W.drop n=σ/\tc W H2 fun b J=>if b=true then te W J fun y z=>Z (i+1) (ys++[y]) z else Z (i+1) ys J)
  (hd:∀ys H,Z ms.length ys H->∀p,H p=none->Q (.ref p) (upd H p (.lst ys))):wN n (FG (pQ (tCB (LW K) (pQ (Nh K (Jv i) f) Bm)) Bm)) g tc te σ H Q:=by
 refine{.ref m,hv,m,C,dx,fs,.ref U,rfl,hm,cl,na,lk,U,ms,rfl,.inl (SqL.of O),(ms.length:Int),rfl,by omega,by omega,?_};rw[vt];refine{fun i k ys H=>k=ms.length-i/\i<=ms.length/\Z i ys H,{ms.length,by simp,cm _,h0},?_};rintro i k ys H ⟨rfl,hi,Y⟩;refine{hl i ys H hi Y,?_}
 by_cases lt:i<ms.length
 ·refine .inr {lt,Z (i+1),fun bf H' D=>{ms.length-(i+1),by omega,rfl,lt,D},fun x H' y=>?_};obtain⟨e,y⟩:=y;subst e y;exact hs i ys _ lt Y
 ·have e:i=ms.length:=by omega
  subst e;exact .inl {ax _,hd ys H Y}
theorem B4{K:af}{a:aa}{xs:List V}{n i:Nat}{g:TG}{tc:L2.TT}{te:TE}{σ:St}{H:Hp}{Q:VK}(hv:σ[i]?=some (some (.ref a)))(hx:SqL K H a xs)(Y:Nat->List V->Hp->Prop)(h0:Y 0 [] H)(hl:∀i ys H,i<=xs.length->Y i ys H->SqL K H a xs/\ys.length<aB)
  (hs:∀i x t ys H,xs[i]?=some x->Y i ys H->H t=none->g (.ref t) (cI n none++σ) (upd H t (.tup [.int i,x])) fun Z H2=>Z.drop n=σ/\tc Z H2 fun b W=>if b=true then te Z W fun y U=>Y (i+1) (ys++[y]) U else Y (i+1) ys W)
  (hd:∀ys H,Y xs.length ys H->∀p,H p=none->Q (.ref p) (upd H p (.lst ys))):wN n (LB K (pQ (Jv i) Bm)) g tc te σ H Q:=
 {.ref a,hv,a,rfl,⟨xs,hx⟩,ET Y h0 hl hs hd}
def mI(H:Hp)(v:V)(e:Ev):Prop:=∃t,v=.ref t/\H t=some (.tup [.int e.t,.int e.r,.int e.to,.str e.sg,.int e.a,.int e.b])
theorem mI.same{H H':Hp}(s:bh H H'){v:V}{e:Ev}(h:mI H v e):mI H' v e:=by
 obtain⟨t,e,h⟩:=h;exact{t,e,s _ _ h}
def atP(e:Ev)(i:Nat):Ev:={e with fr:=-1,c:=i}
section
variable{P:aM}{w:bO}{K:af}{mg:Str->Option ae}{base:cC}{f fP CB:aa}{fd fdP:bX}
inductive Ie(vs:List V)(H:Hp)(Q:VK)(_e:XK):Prop where
 |mk(sl:aa)(svs:List V)(es:List Ev)(_:vs=[.ref sl])(_:H sl=some (.lst svs))(_:aK (mI H) svs es)(_:es.length<1000)(_:∀(G:Hp) (l:aa) (ys:List V),bh H G->H l=none->G l=some (.lst ys)->ys.length=es.length->(∀i y e,ys[i]?=some y->es[i]?=some e->ib G y (atP e i))->Q (.ref l) G):Ie vs H Q _e
def Ig:Sp:=fun vs H Q Z=>Ie vs H Q Z
theorem scPf:bN ["signs"] ["signs"] (aL gc):={}
theorem ndPf:((["place","sign"]:List Str)++(["signs"]:List Str)).Nodup:=by decide +kernel
theorem w9(D:Df K mg "pending_at_first" gc ["signs"] f fd)(ME:mg "enumerate"=none):bL P w K mg base CX0 1 f fd ["signs"] Ig:=by
 refine D.F.ok scPf (fun vs H Q E h=>?_) (fun bz A outer s H vs Q E hr h=>?_)
 ·obtain⟨sl,U,es,rfl,_⟩:=h;rfl
 obtain⟨sl,U,es,rfl,J,ps,bB,k⟩:=h;refine⟨_,aA (bE (o7 ["place","sign"] (iX.open (NN:=["signs"]) (N:=["signs"]) (sc:=aL gc) rfl rfl (by decide +kernel) rfl (by decide +kernel) (by decide +kernel) rfl (by decide +kernel)) rfl (J4 (by rfl) ME (aq (pv 0) ag))
  (fun _ _ _ _=>KC (n:=2) K (by rfl) rfl (km (eA (i:=0) ndPf rfl (Or.inl rfl)) (km (eA (i:=1) ndPf rfl (Or.inl rfl)) vE))) (fun _ _ _ _=>lu)
  (fun _ _ _ _=>dZ (aq (dZ (aq (bY (pG K (by rfl)) (pv 1) av (by intro _ _;rfl)) (aq (bY (pG K (by rfl)) (pv 1) av (by intro _ _;rfl)) (aq (Ck yP av) (aq (pv 0) ag)))))
   (aq (bY (pG K (by rfl)) (pv 1) av (by intro _ _;rfl)) (aq (bY (pG K (by rfl)) (pv 1) av (by intro _ _;rfl)) (aq (bY (pG K (by rfl)) (pv 1) av (by intro _ _;rfl)) (aq (bY (pG K (by rfl)) (pv 1) av (by intro _ _;rfl)) ag)))))))),?_⟩
 have big:=d9;have bF:=aZ ps;refine eW ?_;refine B4 (K:=K) (a:=sl) (xs:=U) rfl (SqL.of J) (fun i ys G=>ys.length=i/\bh H G/\∀j y e,ys[j]?=some y->es[j]?=some e->ib G y (atP e j)) {rfl,bh.refl _,fun j y e h=>by simp at h} ?_ ?_ ?_
 ·rintro i ys G hi ⟨h1,h2,_⟩;exact{SqL.of (h2 _ _ J),by omega}
 ·rintro i x t ys G hi ⟨h1,h2,g⟩ ht;obtain⟨e,z,Y,rfl,bH⟩:=oJ ps hi;have O:=aE ht (.tup [.int i,.ref Y]);have hq:=O _ _ (h2 _ _ bH);refine{t,_,rfl,SqT.of aj,rfl,_,_,rfl,_,_,rfl,rfl,?_};refine{rfl,?_};unfold xJ;refine gG ?_;refine{_,rfl,Y,_,_,_,rfl,rfl,SqT.of hq,rfl,_,rfl,Y,_,_,_,rfl,rfl,SqT.of hq,rfl,_,rfl,_,rfl,(by show 4<=aB;decide),fun kt bG=>?_};have sk:=aE bG (.tup [.int e.t,.int e.r,.int (-1),.int i]);have Z:=sk _ _ hq;refine{_,rfl,Y,_,_,_,rfl,rfl,SqT.of Z,rfl,_,rfl,Y,_,_,_,rfl,rfl,SqT.of Z,rfl,_,rfl,Y,_,_,_,rfl,rfl,SqT.of Z,rfl,_,rfl,Y,_,_,_,rfl,rfl,SqT.of Z,rfl,(by show 5<=aB;decide),fun et I=>?_};have se:=aE I (.tup [.ref kt,.int e.to,.str e.sg,.int e.a,.int e.b]);have sA:=(O.trans sk).trans se;refine{by rw[ay,h1];rfl,h2.trans sA,fun j y e' hy W=>?_}
  rcases vy j ys.length with lt|ge
  ·rw[eQ lt]at hy;exact (g j y e' hy W).same sA
  ·rw[df ge]at hy;have ej:j=i:=by
    by_cases c:j-ys.length=0
    ·omega
    ·rw[List.getElem?_cons,if_neg c]at hy;simp at hy
   subst ej;rw[h1,mJ]at hy
   cases hy;rw[z]at W
   cases W;exact{et,kt,rfl,aj,se _ _ aj}
 ·rintro ys G ⟨h1,h2,g⟩ l hl;have V:=aE hl (.lst ys);exact k _ l ys (h2.trans V) (none_of h2 hl) aj (by omega) fun i y e hy z=>(g i y e hy z).same V
inductive Oc(vs:List V)(H:Hp)(Q:VK)(_e:XK):Prop where
 |mk(q:aa)(v:V)(_:vs=[.ref q,v])(_:H q=some (.lst []))(_:Q (.int 0) H):Oc vs H Q _e
inductive Od(vs:List V)(H:Hp)(Q:VK)(_e:XK):Prop where
 |mk(q:aa)(v:V)(_:vs=[.ref q,v])(_:H q=some (.lst []))(_:Q .non (upd H q (.lst [v]))):Od vs H Q _e
theorem yq:bN ["falling","thing","low","high","middle"] ["falling","thing"] (aL o9):={}
theorem scPic:bN ["falling","thing"] ["falling","thing"] (aL qH):={}
def Ih(r e s:V):List (Str×V):=cJ "states" s (cJ "ending" e (cJ "records" r []))
structure BkT(K:af)(mg:Str->Option ae)(CB:aa):Prop where
 cl:Cls K CB
 nR:eM K CB "records"
 nE:eM K CB "ending"
 nS:eM K CB "states"
 m:mg "Book"=some (.ref CB)
inductive LX(CB:aa)(vs:List V)(H:Hp)(Q:VK)(_e:XK):Prop where
 |mk(b dx:aa)(r e s:V)(_:vs=[.ref b,r,e,s])(_:H b=some (.ins CB dx []))(_:∀G,G b=some (.ins CB dx (Ih r e s))->But b H G->Q .non G):LX CB vs H Q _e
def Oe(CB:aa):Sp:=fun vs H Q Z=>LX CB vs H Q Z
theorem scBk:bN ["self","records","ending","states"] ["self","records","ending","states"] (aL qI):={}
theorem Ii(F:Fun K "__init__" "Book.__init__" qI f fd)(T:BkT K mg CB):bL P w K mg base CX0 1 f fd ["self","records","ending","states"] (Oe CB):=by
 refine F.ok scBk (fun vs H Q E h=>?_) (fun Z A outer s H vs Q E hr h=>?_)
 ·obtain⟨b,dx,r,e,s',rfl,_⟩:=h;rfl
 obtain⟨b,dx,r,e,s',rfl,hb,k⟩:=h;refine{_,ah (eT (pv 0) (pv 1) rfl) (ah (eT (pv 0) (pv 2) rfl) (aA (eT (pv 0) (pv 3) rfl))),?_};have Y:=hV "records" r [];have W:=hV "ending" e (cJ "records" r []);simp only[cy]at Y;refine{_,rfl,_,rfl,b,CB,dx,[],rfl,hb,T.cl,T.nR,(by show 0<1000;decide),_,rfl,_,rfl,b,CB,dx,_,rfl,aj,T.cl,T.nE,(by omega),_,rfl,_,rfl,b,CB,dx,_,rfl,aj,T.cl,T.nS,(by omega),?_};exact k _ aj (((But.upd b H _).trans (But.upd b _ _)).trans (But.upd b _ _))
theorem Ij(r e s:V):(Ih r e s).lookup ("records":Str)=some r:=rfl
theorem bk_e(r e s:V):(Ih r e s).lookup ("ending":Str)=some e:=rfl
def qP(wd:Str):Sp:=fun vs H Q _=>∃a,vs=[a]/\Q (.str wd) H
theorem E5:bN ["self"] ["self"] (aL nJ):={}
theorem lZ(F:Fun K "word" "Nought.word" nJ f fd):qD P w K mg base CX0 1 f fd ["self"] (qP "nought"):=by
 refine F.okH E5 (fun vs H Q E h=>?_) (fun Z A outer s H vs Q E h=>?_)
 ·obtain⟨a,rfl,_⟩:=h;rfl
 obtain⟨a,rfl,q⟩:=h;exact{_,aA (bE bS),q}
end
mutual
def Dd.toOk(m:Int):Dd->Prop
 |.send to _ _ _ _ _=>0<=to/\to<m
 |.pull _ _ o=>o.toOk m
 |.ife _ t e=>t.toOk m/\e.toOk m
 |_=>True
def Ds.toOk(m:Int):Ds->Prop
 |.nil=>True
 |.cons d r=>d.toOk m/\r.toOk m
end
def ddz:Nat->Nat
 |0=>1
 |n+1=>1+6*ddz n
structure MD where
 nm:Str
 bs:List Str
 qs:List Str
 ds:List Int
 hs:List (Str×Ds)
 ps:List (Str×Int)
def B5(H:Hp)(v:V)(M:MD):Prop:=∃(t bl ql:aa) (W U Y:V) (Z:List V),v=.ref t/\H t=some (.tup [W,.ref bl,.ref ql,U,Y])/\H bl=some (.lst Z)/\gU H M.ps Z/\H ql=some (.lst (M.qs.map V.str))
structure MoI(m:Int)(H:Hp)(v:V)(M:MD):Prop where
 ma:w6 M.bs M.qs M.ds M.hs H v
 fs:B5 H v M
 kb:M.ps.map (·.1)=M.bs
 nb:M.bs.Nodup
 nq:M.qs.Nodup
 lb:M.bs.length<=9
 lq:M.qs.length<=9
 ld:M.ds.length<=100
 lh:M.hs.length<=9
 wb:∀q∈M.ps,Wo q.2
 hk:∀q∈M.hs,q.2.toOk m/\q.2.deep<=4/\q.2.size<=3*ddz 4
theorem B5.same{H H':Hp}(s:bh H H'){v:V}{M:MD}(h:B5 H v M):B5 H' v M:=by
 obtain⟨t,bl,ql,O,Y,Z,U,e,h1,h2,J,W⟩:=h;exact{t,bl,ql,O,Y,Z,U,e,s _ _ h1,s _ _ h2,J.same s,s _ _ W}
theorem MoI.same{m:Int}{H H':Hp}(s:bh H H'){v:V}{M:MD}(h:MoI m H v M):MoI m H' v M:=
 {h.ma.same s,h.fs.same s,h.kb,h.nb,h.nq,h.lb,h.lq,h.ld,h.lh,h.wb,h.hk}
def zt(m:Int)(H:Hp)(Z:aa)(Ms:List MD):Prop:=∃xs,H Z=some (.lst xs)/\aK (MoI m H) xs Ms
theorem zt.same{m:Int}{H H':Hp}(s:bh H H'){Z:aa}{Ms:List MD}(h:zt m H Z Ms):zt m H' Z Ms:=by
 obtain⟨xs,h1,h2⟩:=h;exact{xs,s _ _ h1,Paired.mono (fun _ _ z=>z.same s) h2}
abbrev qQ(zs:List (V×List Int)):Prop:=zs.Pairwise (fun a b=>HT.lexLt b.2 a.2=true)
theorem qQ.put{zs:List (V×List Int)}{x:V×List Int}{i:Nat}(h:qQ zs)(h1:∀(j:Nat) z,j<i->zs[j]?=some z->HT.lexLt x.2 z.2=true)(h2:∀(j:Nat) z,i<=j->zs[j]?=some z->HT.lexLt z.2 x.2=true):qQ (zs.take i++x::zs.drop i):=by
 have a1:∀a∈zs.take i,HT.lexLt x.2 a.2=true:=fun a ha=>by
  obtain⟨j,Z⟩:=dI ha;have lt:j<(zs.take i).length:=(aG.mp Z).1;rw[dH]at lt;rw[zS (by omega)]at Z;exact h1 j a (by omega) Z
 have a2:∀a∈zs.drop i,HT.lexLt a.2 x.2=true:=fun a ha=>by
  obtain⟨j,Z⟩:=dI ha;rw[Fs]at Z;exact h2 (i+j) a (by omega) Z
 have hh:qQ (zs.take i++zs.drop i):=by
  rw[rC];exact h
 obtain⟨W,p2,Y⟩:=g9.mp hh;refine g9.mpr {W,gI.mpr {fun b hb=>a2 b hb,p2},fun a ha b hb=>?_}
 rcases ar.mp hb with z|z
 ·rw[z];exact a1 a ha
 ·exact Y a ha b z
theorem qQ.at_{zs:List (V×List Int)}(h:qQ zs){i j:Nat}(lt:i<j){y z:V×List Int}(hi:zs[i]?=some y)(Y:zs[j]?=some z):HT.lexLt z.2 y.2=true:=by
 obtain⟨W,e1⟩:=aG.mp hi;obtain⟨Z,U⟩:=aG.mp Y;have:=dD.mp h i j W Z lt;rw[e1,U]at this;exact this
section
variable{P:aM}{w:bO}{K:af}{mg:Str->Option ae}{base:cC}{f fP:aa}{fd fdP:bX}
inductive Ik(vs:List V)(H:Hp)(Q:VK)(_e:XK):Prop where
 |mk(q b:aa)(zs:List (V×List Int))(n:List Int)(_:vs=[.ref q,.ref b])(_:H q=some (.lst (zs.map (·.1))))(_:(∀z∈zs,BQ H z))(_:qQ zs)(_:BQ H (.ref b,n))(_:n∉zs.map (·.2))(_:zs.length<=10000000)(_:∀i:Nat,i<=zs.length->qQ (zs.take i++(V.ref b,n)::zs.drop i)->Q (.int i) H):Ik vs H Q _e
def LY:Sp:=fun vs H Q Z=>Ik vs H Q Z
theorem Of(D:Df K mg "place_in" o9 ["falling","thing"] f fd)(B:Bl mg):bL P w K mg base CX0 1 f fd ["falling","thing"] LY:=by
 refine D.F.ok yq (fun vs H Q E h=>?_) (fun da A outer s H vs Q E hr h=>?_)
 ·obtain⟨q,b,zs,n,rfl,_⟩:=h;rfl
 obtain⟨q,b,zs,n,rfl,hq,hz,I,hb,nn,hl,k⟩:=h;have hu:=mO hr;obtain⟨b0,kb,rb,eb,W,dc⟩:=hb
 cases eb;refine⟨_,ah (bJ (i:=2) yq.nd rfl (Or.inl rfl) av)
  (ah (bJ (i:=3) yq.nd rfl (Or.inl rfl) (cb ig (by rfl) B.len cu (aq (pv 0) ag)))
  (ah (wx dC (bQ rN (pv 2) (pv 3) (cq _))
   (ah (bJ (i:=4) yq.nd rfl (Or.inl rfl) (cR JB (cR gK (pv 2) (pv 3)) av))
   (aA (cH (bQ (NJ hu) (bY dO (pv 0) (pv 4) (fun _ _=>rfl)) (pv 1) (cq _))
    (aA (bJ (i:=2) yq.nd rfl (Or.inl rfl) (cR gK (pv 4) av)))
    (aA (bJ (i:=3) yq.nd rfl (Or.inl rfl) (pv 4)))))))
  (aA (bE (pv 2))))),?_⟩
 refine{_,rfl,q,_,rfl,.inl (SqL.of hq),?_};refine z8 (fun σ H2=>∃(lo hi:Nat) (m:Option V),σ=[some (.ref q),some (.ref b),some (.int lo),some (.int hi),m]/\H2=H/\lo<=hi/\hi<=zs.length /\
   (∀(j:Nat) (z:V×List Int),j<lo->zs[j]?=some z->HT.lexLt n z.2=true)/\∀(j:Nat) (z:V×List Int),hi<=j->zs[j]?=some z->HT.lexLt n z.2=false)
  (fun σ _=>match σ with | [_,_,some (.int lo),some (.int hi),_]=>(hi-lo).toNat|_=>0) ?_ ?_ ?_
 ·refine{0,zs.length,none,?_,rfl,cm _,ax _,fun j z h=>absurd h (gz _),fun j z h e=>?_}
  ·rw[au];rfl
  ·rw[gL (by omega)]at e
   cases e
 ·rintro σ H2 ⟨lo,hi,m,rfl,rfl,h1,h2,h3,h4⟩;refine{_,rfl,_,rfl,_,_,rfl,rfl,_,rfl,?_};refine gC (fun c=>?_) (fun c=>?_)
  ·have c:lo<hi:=by
    have z:=of_decide_eq_true c;omega
   refine{_,rfl,_,rfl,_,_,rfl,rfl,_,_,rfl,rfl,{by decide,by decide},?_};have em:((lo:Int)+(hi:Int))/2=(((lo+hi)/2:Nat):Int):=by omega
   have lm:(lo+hi)/2<zs.length:=by omega
   obtain⟨z,Z⟩:∃z,zs[(lo+hi)/2]?=some z:={_,aH lm};have mz:=cB Z;obtain⟨az,kz,rz,ez,Y,O⟩:=hz z mz;have ea:(zs.map (·.1))[(lo+hi)/2]?=some (.ref az):=by rw[cQ,Z,Hn,ez]
   have nz:z.2≠n:=fun y=>nn (by rw[<- y];exact jh mz);refine{_,rfl,_,rfl,q,_,_,_,rfl,rfl,SqL.of hq,(by rw[em];exact je ea),_,rfl,az,b,kz,kb,z.2,n,rz,rb,rfl,rfl,Y,W,O,dc,nz,_,rfl,?_};refine gC (fun g=>?_) (fun g=>?_)
   ·refine{_,rfl,_,_,rfl,rfl,{(lo+hi)/2+1,hi,some (.int (((lo:Int)+(hi:Int))/2)),?_,rfl,by omega,h2,fun j y hj e=>?_,h4},?_}
    ·have J:(((lo+hi)/2+1:Nat):Int)=((lo:Int)+(hi:Int))/2+1:=by omega
     rw[J];rfl
    ·by_cases ej:j=(lo+hi)/2
     ·rw[ej,Z]at e
      cases e;exact g
     ·exact HT.lx_trans g (I.at_ (show j<(lo+hi)/2 by omega) e Z)
    ·show ((hi:Int)-(((lo:Int)+(hi:Int))/2+1)).toNat<((hi:Int)-(lo:Int)).toNat;omega
   ·refine{_,rfl,{lo,(lo+hi)/2,some (.int (((lo:Int)+(hi:Int))/2)),?_,rfl,by omega,by omega,h3,fun j y hj e=>?_},?_}
    ·rw[<- em];rfl
    ·have g':HT.lexLt n z.2=false:=by
      cases e':HT.lexLt n z.2 with
      |false=>rfl
      |true=>exact absurd e' g
     by_cases ej:j=(lo+hi)/2
     ·rw[ej,Z]at e
      cases e;exact g'
     ·have z1:=I.at_ (show (lo+hi)/2<j by omega) Z e
      cases e':HT.lexLt n y.2 with
      |false=>rfl
      |true=>
       have z2:=HT.lx_trans e' z1;rw[g']at z2
       cases z2
    ·show ((((lo:Int)+(hi:Int))/2)-(lo:Int)).toNat<((hi:Int)-(lo:Int)).toNat;omega
  ·have e:lo=hi:=by
    have z:¬((lo:Int)<(hi:Int)):=fun z=>c (decide_eq_true z);omega
   subst e;refine{_,rfl,k lo h2 (I.put h3 fun j z hj e=>?_)};exact HT.lx_of_not (h4 j z hj e) fun y=>nn (by
    have y:n=z.2:=y;rw[y];exact jh (cB e))
 ·rintro σ H2 Q1 Q2 U h;obtain⟨a1,e1,a2,J,i,j,e3,e4,b',e5,h⟩:=h;exact{a1,e1,a2,J,i,j,e3,e4,b',e5,U _ _ h}
inductive Il(vs:List V)(H:Hp)(Q:VK)(_e:XK):Prop where
 |mk(q b:aa)(zs:List (V×List Int))(n:List Int)(_:vs=[.ref q,.ref b])(_:H q=some (.lst (zs.map (·.1))))(_:(∀z∈zs,BQ H z))(_:qQ zs)(_:BQ H (.ref b,n))(_:n∉zs.map (·.2))(_:zs.length<=10000000)(_:∀zs':List (V×List Int),zs'.Perm ((V.ref b,n)::zs)->qQ zs'->Q .non (upd H q (.lst (zs'.map (·.1))))):Il vs H Q _e
def AJ:Sp:=fun vs H Q Z=>Il vs H Q Z
theorem uJ(D:Df K mg "put_in" qH ["falling","thing"] f fd)(Z:Df K mg "place_in" o9 ["falling","thing"] fP fdP)(B:Bl mg):bL P w K mg base CX0 2 f fd ["falling","thing"] AJ:=by
 have W:bL P w K mg base CX0 1 fP fdP ["falling","thing"] LY:=Of Z B;refine D.F.ok scPic (fun vs H Q E h=>?_) (fun J A outer s H vs Q E hr h=>?_)
 ·obtain⟨q,b,zs,n,rfl,_⟩:=h;rfl
 obtain⟨q,b,zs,n,rfl,hq,U,O,hb,nn,hl,k⟩:=h;refine{_,aA (e7 (pT cF PySem.F.slot_list_insert PySem.F.type_list_insert EL (pv 0) (aq (aI W hr rfl Z.m Z.F.kp Z.b .nil bC (aq (pv 0) (aq (pv 1) ag))) (aq (pv 1) ag)))),?_};have sl:10000000<aB:=by decide
 refine{_,rfl,.inl {rfl,_,SqL.of hq},_,rfl,_,rfl,q,b,zs,n,rfl,hq,U,O,hb,nn,hl,fun i hi Y=>{_,rfl,q,_,i,.ref b,rfl,rfl,hq,by rw[au];exact hi,by rw[au];omega,?_}};have z:=k (zs.take i++(V.ref b,n)::zs.drop i) ?_ Y
 ·rw[cw,cg,N6,List.map_drop]at z;exact z
 ·refine vU.trans ?_;rw[rC]
end
structure Sta where
 bx:List (Str×Int)
 qu:List (Str×List Int)
 dr:Nat
 se:Int
def Sta.w(s:Sta):Wk:=w0 s.bx s.qu s.dr s.se
structure Rec where
 h:Ev
 wb:List (Str×Int)
 wq:List (Str×List Int)
 out:List Ev
inductive Stp where
 |fin(h:Ev)
 |flt(e:Flt)(h:Ev)
inductive End where
 |empty
 |cut
 |stp(s:Stp)
structure RS where
 sts:List Sta
 pd:List Ev
 re:Option Ev
 sp:Option Stp
def Ev.key(e:Ev):List Int:=[e.t,e.r,e.fr,e.c]
def jZ(x:Ev):List Ev->List Ev
 | []=>[x]
 |y::ys=>if HT.lexLt x.key y.key=true then y::jZ x ys else x::y::ys
def l8(xs pd:List Ev):List Ev:=xs.foldl (fun p e=>jZ e p) pd
abbrev kX(es:List Ev):Prop:=es.Pairwise (fun a b=>HT.lexLt b.key a.key=true)
def gN(r:RS)(left:Int):Option End:=match r.sp with
 |some s=>some (.stp s)
 |none=>if r.pd.isEmpty=true then some .empty else if left<=0 then some .cut else none
def eJ(Ms:List MD)(r:RS):RS×List Rec:=match r.pd.getLast? with
 |none=>(r,[])
 |some h=>match Ms[h.to.toNat]?,r.sts[h.to.toNat]? with
  |some M,some s=>(match doS h M.ds (jK M.hs h.sg) s.w with
   |.error e=>({r with pd:=r.pd.dropLast,sp:=some (.flt e h)},[])
   |.ok w=>({r.sts.set h.to.toNat ⟨w.bx,w.qu,w.dr,w.se⟩,l8 w.out r.pd.dropLast,some h,if w.en=true then some (.fin h) else none},[{h,wrB M.bs w,wrQ M.qs w,w.out}]))
  |_,_=>(r,[])
def itR(Ms:List MD)(r:RS):Nat->RS×List Rec
 |0=>(r,[])
 |n+1=>((eJ Ms (itR Ms r n).1).1,(itR Ms r n).2++(eJ Ms (itR Ms r n).1).2)
theorem gR(x:Ev):∀ys:List Ev,(jZ x ys).Perm (x::ys)
 | []=>iB _
 |y::ys=>by
  unfold jZ
  split
  ·exact ((gR x ys).cons y).trans (List.Perm.swap x y ys)
  ·exact iB _
theorem eI:∀(xs pd:List Ev),(l8 xs pd).Perm (xs++pd)
 | [],pd=>iB _
 |x::xs,pd=>by
  show (l8 xs (jZ x pd)).Perm _;refine (eI xs (jZ x pd)).trans ?_;refine ((iB xs).append (gR x pd)).trans ?_;exact vU
theorem lD{x:Ev}:∀{ys:List Ev},kX ys->(∀y∈ys,x.key≠y.key)->kX (jZ x ys)
 | [],_,_=>pU _ _
 |y::ys,h,n=>by
  obtain⟨h1,h2⟩:=gI.mp h;unfold jZ
  by_cases c:HT.lexLt x.key y.key=true
  ·rw[if_pos c];refine gI.mpr {fun z Z=>?_,lD h2 fun z Z=>n z (ak _ Z)}
   rcases ar.mp ((gR x ys).mem_iff.mp Z) with e|e
   ·rw[e];exact c
   ·exact h1 z e
  ·rw[if_neg c];have lt:HT.lexLt y.key x.key=true:=HT.lx_of_not (by
    cases e:HT.lexLt x.key y.key with
    |false=>rfl
    |true=>exact absurd e c) (n y aC)
   refine gI.mpr {fun z Z=>?_,h}
   rcases ar.mp Z with e|e
   ·rw[e];exact lt
   ·exact HT.lx_trans (h1 z e) lt
theorem uK:∀{xs ys:List Ev},kX xs->kX ys->xs.Perm ys->xs=ys
 | [],ys,_,_,p=>(List.nil_perm.mp p).symm ▸ rfl
 |x::xs,[],_,_,p=>absurd p (by intro z;have:=z.length_eq;simp at this)
 |x::xs,y::ys,h,k,p=>by
  obtain⟨h1,h2⟩:=gI.mp h;obtain⟨k1,k2⟩:=gI.mp k;have e:x=y:=by
   rcases ar.mp (p.mem_iff.mp (aC (a:=x) (l:=xs))) with z|z
   ·exact z
   ·rcases ar.mp (p.mem_iff.mpr (aC (a:=y) (l:=ys))) with q|q
    ·exact q.symm
    ·have a:=k1 x z;have b:=HT.lx_asym (h1 y q);rw[a]at b
     cases b
  subst e;rw[uK h2 k2 ((List.perm_cons x).mp p)]
structure LZ(m:Int)(h:Ev)(se se':Int)(e:Ev):Prop where
 fr:e.fr=h.to
 c0:se<=e.c
 c1:e.c<se'
 t0:h.t<e.t
 t1:e.t<=10^12
 to0:0<=e.to
 to1:e.to<m
structure News(m:Int)(h:Ev)(n:Nat)(w w':Wk):Prop where
 se:w.se<=w'.se
 ex:∃new,w'.out=w.out++new/\new.length<=n/\(∀e∈new,LZ m h w.se w'.se e)/\new.Pairwise (fun a b=>a.c<b.c)
theorem News.none{m:Int}{h:Ev}{n:Nat}{w Z:Wk}(e1:Z.se=w.se)(Y:Z.out=w.out):News m h n w Z:=
 {by rw[e1];exact xr _,[],by rw[Y,cL],cm _,(fun e W=>by cases W),List.Pairwise.nil}
theorem News.trans{m:Int}{h:Ev}{n1 n2:Nat}{w O U:Wk}(a:News m h n1 w O)(b:News m h n2 O U):News m h (n1+n2) w U:=by
 obtain⟨D,x1,e1,l1,V,g⟩:=a;obtain⟨s2,J,H,l2,W,p2⟩:=b;refine{Int.le_trans D s2,x1++J,by rw[H,e1,iK],by rw[ay];omega,fun e I=>?_,g9.mpr {g,p2,fun a ha b hb=>?_}}
 ·rcases bZ.mp I with z|z
  ·obtain⟨f,c0,c1,t0,t1,Z,Y⟩:=V e z;exact{f,c0,by omega,t0,t1,Z,Y}
  ·obtain⟨f,c0,c1,t0,t1,Z,Y⟩:=W e z;exact{f,by omega,c1,t0,t1,Z,Y}
 ·have:=(V a ha).c1;have:=(W b hb).c0;omega
theorem News.le{m:Int}{h:Ev}{n1 n2:Nat}{w Z:Wk}(a:News m h n1 w Z)(l:n1<=n2):News m h n2 w Z:=by
 obtain⟨W,x1,e1,U,Y,V⟩:=a;exact{W,x1,e1,by omega,Y,V}
theorem News.from{m:Int}{h:Ev}{n:Nat}{w0 w Z:Wk}(a:News m h n w Z)(e1:w.se=w0.se)(V:w.out=w0.out):News m h n w0 Z:=by
 obtain⟨W,x1,f1,O,Y,U⟩:=a;rw[e1]at W Y;exact{W,x1,by rw[f1,V],O,Y,U}
theorem sP{h:Ev}{w Z:Wk}{f:Fm}{k:Wk->Int->Except Flt Wk}(e:rck h w f k=.ok Z):∃n,k {w with rk:=w.rk++[f]} n=.ok Z:=by
 unfold rck at e
 split at e
 ·exact{_,e}
 ·cases e
 ·cases e
mutual
theorem Im{m:Int}{h:Ev}{ds:List Int}:∀(D:Dd) (w Z:Wk),D.toOk m->doD h ds D w=.ok Z->News m h D.size w Z
 |.put x f,w,Z,_,e=>by
  simp only[doD]at e;obtain⟨n,e⟩:=sP e
  cases e;exact News.none rfl rfl
 |.push q f,w,Z,_,e=>by
  simp only[doD]at e;obtain⟨n,e⟩:=sP e;try dsimp only at e
  split at e
  ·cases e
  ·cases e;exact News.none rfl rfl
 |.pull q x o,w,Z,to,e=>by
  simp only[doD]at e;simp only[Dd.toOk]at to
  split at e
  ·exact ((oM o _ _ to e).le (gm _)).from rfl rfl
  ·cases e;exact News.none rfl rfl
 |.draw x f,w,Z,_,e=>by
  simp only[doD]at e;obtain⟨n,e⟩:=sP e;try dsimp only at e
  split at e
  ·cases e
  ·split at e
   ·cases e
   ·cases e;exact News.none rfl rfl
 |.send to sg sp rk a b,w,Z,Y,e=>by
  simp only[doD]at e;simp only[Dd.toOk]at Y;obtain⟨n,e⟩:=sP e;try dsimp only at e
  split at e
  ·cases e
  ·rename_i c
   obtain⟨x,e⟩:=sP e;obtain⟨y,e⟩:=sP e;try dsimp only at e
   split at e
   ·cases e
   ·rename_i c2
    cases e;refine{?_,[_],rfl,ax _,fun q hq=>?_,pU _ _}
    ·show w.se<=w.se+1;omega
    ·rw[aD.mp hq];exact{rfl,xr _,(by show w.se<w.se+1;omega),(by show h.t<h.t+n;omega),(by show h.t+n<=10^12;omega),Y.1,Y.2}
 |.ife f t W,w,Z,to,e=>by
  simp only[doD]at e;simp only[Dd.toOk]at to;obtain⟨n,e⟩:=sP e;try dsimp only at e
  simp only[Dd.size]
  split at e
  ·exact ((oM W _ _ to.2 e).le (by omega)).from rfl rfl
  ·exact ((oM t _ _ to.1 e).le (by omega)).from rfl rfl
 |.fin,w,Z,_,e=>by
  simp only[doD]at e
  cases e;exact News.none rfl rfl
theorem oM{m:Int}{h:Ev}{ds:List Int}:∀(D:Ds) (w Z:Wk),D.toOk m->doS h ds D w=.ok Z->News m h D.size w Z
 |.nil,w,Z,_,e=>by
  simp only[doS]at e
  cases e;exact News.none rfl rfl
 |.cons d r,w,Z,to,e=>by
  simp only[doS]at e;simp only[Ds.toOk]at to;simp only[Ds.size]
  split at e
  ·rename_i w1 e1
   exact (Im d _ _ to.1 e1).trans (oM r _ _ to.2 e)
  ·cases e
end
structure qR(m:Nat)(e:Ev):Prop where
 to0:0<=e.to
 to1:e.to<m
 wt:Wo e.t
 wa:Wo e.a
 wb:Wo e.b
structure ROk(m:Nat)(r:RS):Prop where
 len:r.sts.length=m
 fall:kX r.pd
 ev:∀e∈r.pd,qR m e
 cn:∀e∈r.pd,e.fr=-1\/∃(i:Nat) (s:Sta),e.fr=(i:Int)/\r.sts[i]?=some s/\e.c<s.se
theorem oO{pd:List Ev}{h:Ev}(f:kX (pd++[h])):kX pd/\∀e∈pd,HT.lexLt h.key e.key=true:=by
 obtain⟨f1,_,Z⟩:=g9.mp f;exact{f1,fun e Y=>Z e Y h (aD.mpr rfl)}
theorem xa{pd:List Ev}{h:Ev}(e:pd.getLast?=some h):pd=pd.dropLast++[h]:=by
 obtain⟨ys,rfl⟩:=List.getLast?_eq_some_iff.mp e;rw[rT]
theorem key_t{a b:Ev}(h:a.t<b.t):HT.lexLt a.key b.key=true:=by
 unfold Ev.key;rw[HT.lexLt_cons,if_neg (by omega)];exact decide_eq_true h
theorem nY{a b:Ev}(h:a.fr≠b.fr\/a.c≠b.c):a.key≠b.key:=fun z=>by
 unfold Ev.key at z;simp only[List.cons.injEq]at z
 rcases h with h|h
 ·exact h z.2.2.1
 ·exact h z.2.2.2.1
theorem lE:∀{xs pd:List Ev},kX pd->(∀x∈xs,∀y∈pd,x.key≠y.key)->xs.Pairwise (fun a b=>a.key≠b.key)->kX (l8 xs pd)
 | [],_,h,_,_=>h
 |x::xs,pd,h,n,p=>by
  obtain⟨Y,p2⟩:=gI.mp p;refine lE (xs:=xs) (lD h fun y hy=>n x aC y hy) (fun z Z y hy=>?_) p2
  rcases ar.mp ((gR x pd).mem_iff.mp hy) with e|e
  ·rw[e];exact fun q=>Y z Z q.symm
  ·exact n z (ak _ Z) y e
structure Did(Ms:List MD)(r:RS)(h:Ev)(M:MD)(s:Sta):Prop where
 pd:r.pd=r.pd.dropLast++[h]
 hM:Ms[h.to.toNat]?=some M
 hs:r.sts[h.to.toNat]?=some s
theorem qS{Ms:List MD}{r:RS}{h:Ev}{M:MD}{s:Sta}(d:Did Ms r h M s){e:Flt}(q:doS h M.ds (jK M.hs h.sg) s.w=.error e):eJ Ms r=({r with pd:=r.pd.dropLast,sp:=some (.flt e h)},[]):=by
 have l:r.pd.getLast?=some h:=by
  rw[d.pd,hJ]
 unfold eJ;rw[l];dsimp only;rw[d.hM,d.hs];dsimp only;rw[q]
theorem tS{Ms:List MD}{r:RS}{h:Ev}{M:MD}{s:Sta}(d:Did Ms r h M s){w:Wk}(q:doS h M.ds (jK M.hs h.sg) s.w=.ok w):eJ Ms r=({r.sts.set h.to.toNat ⟨w.bx,w.qu,w.dr,w.se⟩,l8 w.out r.pd.dropLast,some h,if w.en=true then some (.fin h) else none},[{h,wrB M.bs w,wrQ M.qs w,w.out}]):=by
 have l:r.pd.getLast?=some h:=by
  rw[d.pd,hJ]
 unfold eJ;rw[l];dsimp only;rw[d.hM,d.hs];dsimp only;rw[q]
theorem xb{m:Nat}{Ms:List MD}{r:RS}{h:Ev}{M:MD}{s:Sta}(k:ROk m r)(d:Did Ms r h M s){n:Nat}{w:Wk}(N:News m h n s.w w):(∀x∈w.out,∀y∈r.pd.dropLast,x.key≠y.key)/\w.out.Pairwise (fun a b=>a.key≠b.key)/\(∀x∈w.out,LZ m h s.se w.se x):=by
 obtain⟨O,new,e,ln,ho,hp⟩:=N;have e:w.out=new:=e;rw[e];have Y:h∈r.pd:=by
  rw[d.pd];exact bj _ (aD.mpr rfl)
 have h0:=(k.ev h Y).to0;refine{fun x hx y hy=>?_,hp.imp fun z=>nY (.inr (by omega)),ho};have o:=ho x hx;have Z:y∈r.pd:=eG _ hy
 rcases k.cn y Z with z|⟨i,s',J,W,U⟩
 ·refine nY (.inl ?_);rw[o.fr,z];omega
 ·by_cases c:y.fr=h.to
  ·refine nY (.inr ?_);have V:h.to.toNat=i:=by omega
   have:=d.hs;rw[V,W]at this
   cases this;have c0:s.se<=x.c:=o.c0;omega
  ·refine nY (.inl ?_);rw[o.fr];exact fun q=>c q.symm
theorem Io{m:Nat}{Ms:List MD}{r:RS}{h:Ev}{M:MD}{s:Sta}(k:ROk m r)(d:Did Ms r h M s){n:Nat}{w:Wk}(q:doS h M.ds (jK M.hs h.sg) s.w=.ok w)(N:News m h n s.w w)(wo:∀e∈w.out,Wo e.a/\Wo e.b):ROk m (eJ Ms r).1:=by
 rw[tS d q];obtain⟨n1,n2,n3⟩:=xb k d N;have f:=k.fall;rw[d.pd]at f;obtain⟨f1,H⟩:=oO f;refine{by rw[JK];exact k.len,lE f1 n1 n2,fun e Y=>?_,fun e Y=>?_}
 ·rcases bZ.mp ((eI _ _).mem_iff.mp Y) with z|z
  ·obtain⟨a,b,c,d',J,O,g'⟩:=n3 e z;have Z:h∈r.pd:=by
    rw[d.pd];exact bj _ (aD.mpr rfl)
   have ht:=(k.ev h Z).wt;have g:(10:Int)^15=1000000000000000:=by decide
   have I:(10:Int)^12=1000000000000:=by decide
   refine{O,g',?_,(wo e z).1,(wo e z).2};unfold Wo at ht |-;omega
  ·exact k.ev e (eG _ z)
 ·have lt:h.to.toNat<r.sts.length:=(aG.mp d.hs).1;have Z:h∈r.pd:=by
   rw[d.pd];exact bj _ (aD.mpr rfl)
  have h0:=(k.ev h Z).to0
  rcases bZ.mp ((eI _ _).mem_iff.mp Y) with z|z
  ·obtain⟨a,b,c,_⟩:=n3 e z;refine .inr {h.to.toNat,_,by omega,fX lt,c}
  ·rcases k.cn e (eG _ z) with y|⟨i,s',U,W,V⟩
   ·exact .inl y
   ·by_cases c:h.to.toNat=i
    ·subst c;have es:s=s':=dP (d.hs.symm.trans W);rw[<- es]at V;refine .inr {_,_,U,fX lt,?_};have D:s.se<=w.se:=N.se;show e.c<w.se;omega
    ·exact .inr {i,s',U,by rw[iU c];exact W,V}
theorem E6{m:Nat}{Ms:List MD}{r:RS}{h:Ev}{M:MD}{s:Sta}(k:ROk m r)(d:Did Ms r h M s){e:Flt}(q:doS h M.ds (jK M.hs h.sg) s.w=.error e):ROk m (eJ Ms r).1:=by
 rw[qS d q];have f:=k.fall;rw[d.pd]at f;exact{k.len,(oO f).1,fun e Z=>k.ev e (eG _ Z),fun e Z=>k.cn e (eG _ Z)}
structure Ex where
 l:List aa
 b:Hp
def Ex.In(ex:Ex)(a:aa):Prop:=a∈ex.l\/∃o,ex.b a=some o/\∀xs,o≠.tup xs
instance:Membership Addr Ex:={fun ex a=>ex.In a}
def Ex.add(ex:Ex)(a:aa):Ex:={a::ex.l,ex.b}
theorem Ex.here{ex:Ex}{a:aa}:a∈ex.add a:=.inl aC
theorem Ex.more{ex:Ex}{a b:aa}(h:b∈ex):b∈ex.add a:=h.elim (fun z=>.inl (ak _ z)) .inr
theorem Ex.or{ex:Ex}{a b:aa}(h:b∈ex.add a):b=a\/b∈ex:=h.elim (fun z=>(ar.mp z).elim .inl fun y=>.inr (.inl y)) fun z=>.inr (.inr z)
open Classical in
noncomputable def Hid(ex:Ex)(G:Hp):Hp:=fun a=>if a∈ex then none else G a
section
variable{ex:Ex}{G G':Hp}{a:aa}{o:HO}
theorem gO(e:Hid ex G a=some o):a∉ex:=fun m=>by
 unfold Hid at e;rw[if_pos m]at e
 cases e
theorem eg(n:a∉ex):Hid ex G a=G a:=if_neg n
theorem cW:bh (Hid ex G) G:=fun b o e=>by
 rw[eg (gO e)]at e;exact e
theorem gW(m:a∈ex):Hid ex (upd G a o)=Hid ex G:=by
 funext b
 unfold Hid
 by_cases c:b∈ex
 ·rw[if_pos c,if_pos c]
 ·rw[if_neg c,if_neg c,aN fun z=>c (by rw[z];exact m)]
theorem gv(s:bh G G'):bh (Hid ex G) (Hid ex G'):=fun b o e=>by
 rw[eg (gO e)];exact s _ _ (cW _ _ e)
theorem Og(s:∀b o,G b=some o->b∉ex->G' b=some o):bh (Hid ex G) (Hid ex G'):=fun b o e=>by
 rw[eg (gO e)];exact s _ _ (cW _ _ e) (gO e)
theorem gA{xs:List V}(nt:∀a∈ex,∃o,G a=some o/\∀xs,o≠.tup xs)(h:G a=some (.tup xs)):Hid ex G a=some (.tup xs):=by
 rw[eg fun m=>by
  obtain⟨o,e,n⟩:=nt a m;rw[e]at h
  cases h;exact n _ rfl]
 exact h
theorem qT(n:G a=none):Hid (ex.add a) (upd G a o)=Hid ex G:=by
 funext b
 unfold Hid
 by_cases c:b=a
 ·rw[c,if_pos Ex.here]
  by_cases d:a∈ex
  ·rw[if_pos d]
  ·rw[if_neg d,n]
 ·by_cases d:b∈ex
  ·rw[if_pos d,if_pos (Ex.more d)]
  ·rw[if_neg d,if_neg (fun z=>(Ex.or z).elim c d),aN c]
theorem AK:bh (Hid (ex.add a) G) (Hid ex G):=fun b o e=>by
 rw[eg fun m=>gO e (Ex.more m)];exact cW _ _ e
end
abbrev B6(h:Ev):HO:=.tup [.int h.t,.int h.r,.int h.fr,.int h.c]
def RcIn(F:Hp)(v:V)(q:Rec):Prop:=∃(W k wl od:aa) (Z Y vs:List V) (qa:List (Str×aa)),v=.ref W/\F W=some (.tup [.ref k,.int q.h.to,.str q.h.sg,.int q.h.a,.int q.h.b,.ref wl,.ref od])/\F k=some (B6 q.h) /\
 F wl=some (.lst (Z++Y))/\aK (zq F) Z q.wb/\aK (AH F) Y qa/\gE F qa q.wq/\F od=some (.lst vs)/\aK (ib F) vs q.out
theorem RcIn.same{F W:Hp}(s:bh F W){v:V}{q:Rec}(h:RcIn F v q):RcIn W v q:=by
 obtain⟨I,k,wl,od,Z,Y,vs,qa,e,h1,h2,g,J,U,O,D,H⟩:=h;exact{I,k,wl,od,Z,Y,vs,qa,e,s _ _ h1,s _ _ h2,s _ _ g,Paired.mono (fun _ _ z=>z.keep fun a xs e=>s _ _ e) J,Paired.mono (fun _ _ z=>z.keep fun a xs e=>s _ _ e) U,O.same s,s _ _ D,Paired.mono (fun _ _ z=>z.same s) H}
def rV:Flt->Str
 |.nought=>"nought"
 |.great=>"great"
 |.full=>"full"
 |.dry=>"dry"
 |.span=>"span"
 |.late=>"late"
def zu(F:Hp)(v:V):Option Ev->Prop
 |none=>v=.non
 |some h=>∃k,v=.ref k/\F k=some (B6 h)
def xc(F:Hp)(v:V):Stp->Prop
 |.fin h=>∃t k,v=.ref t/\F t=some (.tup [.str "end",.ref k])/\F k=some (B6 h)
 |.flt e h=>∃t k,v=.ref t/\F t=some (.tup [.str "fault",.str (rV e),.ref k])/\F k=some (B6 h)
def zv(F:Hp)(v:V):Option Stp->Prop
 |none=>v=.non
 |some s=>xc F v s
def lA(F:Hp)(v:V):End->Prop
 |.empty=>∃t,v=.ref t/\F t=some (.tup [.str "empty"])
 |.cut=>∃t,v=.ref t/\F t=some (.tup [.str "cut"])
 |.stp s=>xc F v s
theorem zu.same{F Z:Hp}(s:bh F Z){v:V}:∀{q:Option Ev},zu F v q->zu Z v q
 |none,h=>h
 |some _,⟨k,e,h⟩=>{k,e,s _ _ h}
theorem xc.same{F Z:Hp}(s:bh F Z){v:V}:∀{q:Stp},xc F v q->xc Z v q
 |.fin _,⟨t,k,e,h1,h2⟩=>{t,k,e,s _ _ h1,s _ _ h2}
 |.flt _ _,⟨t,k,e,h1,h2⟩=>{t,k,e,s _ _ h1,s _ _ h2}
theorem zv.same{F Z:Hp}(s:bh F Z){v:V}:∀{q:Option Stp},zv F v q->zv Z v q
 |none,h=>h
 |some _,h=>xc.same s h
theorem lA.same{F Z:Hp}(s:bh F Z){v:V}:∀{q:End},lA F v q->lA Z v q
 |.empty,⟨t,e,h⟩=>{t,e,s _ _ h}
 |.cut,⟨t,e,h⟩=>{t,e,s _ _ h}
 |.stp _,h=>xc.same s h
def iu(m s p r e:V):List (Str×V):=[("model",m),("states",s),("pending",p),("reached",r),("stopped",e)]
structure CoT(K:af)(mg:Str->Option ae)(CC:aa):Prop where
 cl:Cls K CC
 nM:eM K CC "model"
 nS:eM K CC "states"
 nP:eM K CC "pending"
 nR:eM K CC "reached"
 nE:eM K CC "stopped"
 m:mg "Course"=some (.ref CC)
theorem co_m(m s p r e:V):(iu m s p r e).lookup ("model":Str)=some m:=rfl
theorem Iq(m s p r e:V):(iu m s p r e).lookup ("states":Str)=some s:=rfl
theorem Ir(m s p r e:V):(iu m s p r e).lookup ("pending":Str)=some p:=rfl
theorem Oh(m s p r e:V):(iu m s p r e).lookup ("reached":Str)=some r:=rfl
theorem KD(m s p r e:V):(iu m s p r e).lookup ("stopped":Str)=some e:=rfl
theorem xf(m s p r e:V):(iu m s p r e).length<1000:=by show 5<1000;decide
theorem Oi(m s p r e:V):cJ "stopped" e (cJ "reached" r (cJ "pending" p (cJ "states" s (cJ "model" m []))))=iu m s p r e:=rfl
theorem Dv(m s p r e Z:V):cJ "reached" Z (iu m s p r e)=iu m s p Z e:=rfl
theorem zw(m s p r e Z:V):cJ "stopped" Z (iu m s p r e)=iu m s p r Z:=rfl
theorem xg(m s p r e:V){x:Str}(hx:(["model","states","pending","reached","stopped"]:List Str).contains x=false):(iu m s p r e).lookup x=none:=by
 have z:∀k∈(["model","states","pending","reached","stopped"]:List Str),(x==k)=false:=fun k hk=>beq_eq_false_iff_ne.mpr fun e=>by
  rw[e,kH.mpr hk]at hx
  cases hx
 unfold iu;rw[dX (z _ (by simp)),dX (z _ (by simp)),dX (z _ (by simp)),dX (z _ (by simp)),dX (z _ (by simp))];rfl
def vB(CM:aa)(Ms:List MD)(H:Hp)(m:aa):Prop:=∃(dx Z:aa) (fs:List (Str×V)),H m=some (.ins CM dx fs)/\fs.lookup ("machines":Str)=some (.ref Z)/\zt (Ms.length:Int) H Z Ms
theorem vB.same{CM:aa}{Ms:List MD}{H H':Hp}(s:bh H H'){m:aa}(h:vB CM Ms H m):vB CM Ms H' m:=by
 obtain⟨dx,Z,fs,h1,h2,Y⟩:=h;exact{dx,Z,fs,s _ _ h1,h2,Y.same s}
abbrev StA(CS:aa)(F:Hp):aa->Sta->Prop:=fun a s=>jS CS F a s.bx s.qu s.dr s.se
structure iC(CC CS:aa)(Ms:List MD)(Hb:Hp)(ex:Ex)(G:Hp)(co m sl pl:aa)(r:RS):Prop where
 ok:ROk Ms.length r
 sm:∀b o,Hb b=some o->b≠co/\b≠sl/\b≠pl/\G b=some o
 i1:co∈ex
 i2:sl∈ex
 i3:pl∈ex
 n1:co≠sl
 n2:co≠pl
 n3:sl≠pl
 hc:∃dx rv sv,G co=some (.ins CC dx (iu (.ref m) (.ref sl) (.ref pl) rv sv))/\zu (Hid ex G) rv r.re/\zv (Hid ex G) sv r.sp
 hs:∃ss:List aa,G sl=some (.lst (ss.map V.ref))/\aK (StA CS (Hid ex G)) ss r.sts
 hp:∃ps,G pl=some (.lst ps)/\aK (ib (Hid ex G)) ps r.pd
 wk:∀(i:Nat) (M:MD) (s:Sta),Ms[i]?=some M->r.sts[i]?=some s->qM M.bs M.qs s.w
 nt:∀a∈ex,∃o,G a=some o/\∀xs,o≠.tup xs
theorem jS.same'{CS:aa}{H H':Hp}(s:bh H H'){st:aa}{bx:List (Str×Int)}{qu:List (Str×List Int)}{dr:Nat}{se:Int}(h:jS CS H st bx qu dr se):jS CS H' st bx qu dr se:=by
 obtain⟨dx,bd,qd,qa,h1,h2,Z,Y⟩:=h;exact{dx,bd,qd,qa,s _ _ h1,s _ _ h2,s _ _ Z,Y.same s}
section
variable{CC CS:aa}{Ms:List MD}{Hb G G':Hp}{ex:Ex}{co m sl pl:aa}{r:RS}
theorem iC.same(c:iC CC CS Ms Hb ex G co m sl pl r)(s:bh G G'):iC CC CS Ms Hb ex G' co m sl pl r:=by
 obtain⟨dx,rv,J,h1,h2,O⟩:=c.hc;obtain⟨V,W,Z⟩:=c.hs;obtain⟨ps,Y,U⟩:=c.hp;have f:=gv (ex:=ex) s;exact⟨c.ok,fun b o e=>(c.sm b o e).imp id (yt id (yt id (s _ _))),c.i1,c.i2,c.i3,c.n1,c.n2,c.n3,{dx,rv,J,s _ _ h1,h2.same f,O.same f},{V,s _ _ W,Paired.mono (fun _ _ z=>jS.same' f z) Z},{ps,s _ _ Y,Paired.mono (fun _ _ z=>z.same f) U},c.wk,fun a ha=>by
  obtain⟨o,e,n⟩:=c.nt a ha;exact{o,s _ _ e,n}⟩
theorem iC.more(c:iC CC CS Ms Hb ex G co m sl pl r){a:aa}{o:HO}(n:G a=none)(U:∀xs,o≠.tup xs):iC CC CS Ms Hb (ex.add a) (upd G a o) co m sl pl r:=by
 obtain⟨dx,rv,H,h1,h2,I⟩:=c.hc;obtain⟨O,Y,V⟩:=c.hs;obtain⟨ps,Z,J⟩:=c.hp;refine{c.ok,?_,Ex.more c.i1,Ex.more c.i2,Ex.more c.i3,c.n1,c.n2,c.n3,{dx,rv,H,aW h1 (aw h1 n),?_,?_},{O,aW Y (aw Y n),?_},{ps,aW Z (aw Z n),?_},c.wk,fun b hb=>?_}
 ·exact fun b o e=>(c.sm b o e).imp id (yt id (yt id fun z=>aW z (aw z n)))
 ·rw[qT n];exact h2
 ·rw[qT n];exact I
 ·rw[qT n];exact V
 ·rw[qT n];exact J
 ·rcases Ex.or hb with z|z
  ·rw[z];exact⟨o,aj,U⟩
  ·obtain⟨o',e,W⟩:=c.nt b z;exact{o',aW e (aw e n),W}
theorem iC.less{a:aa}(c:iC CC CS Ms Hb (ex.add a) G co m sl pl r)(a1:co≠a)(a2:sl≠a)(a3:pl≠a):iC CC CS Ms Hb ex G co m sl pl r:=by
 obtain⟨dx,rv,J,h1,h2,O⟩:=c.hc;obtain⟨V,W,Z⟩:=c.hs;obtain⟨ps,Y,U⟩:=c.hp;have f:bh (Hid (ex.add a) G) (Hid ex G):=AK;have out:∀{b:aa},b∈ex.add a->b≠a->b∈ex:=fun m n=>(Ex.or m).elim (fun z=>absurd z n) id;exact{c.ok,c.sm,out c.i1 a1,out c.i2 a2,out c.i3 a3,c.n1,c.n2,c.n3,{dx,rv,J,h1,h2.same f,O.same f},{V,W,Paired.mono (fun _ _ z=>jS.same' f z) Z},{ps,Y,Paired.mono (fun _ _ z=>z.same f) U},c.wk,fun b hb=>c.nt b (Ex.more hb)}
theorem iC.upd(c:iC CC CS Ms Hb ex G co m sl pl r){a:aa}{o:HO}(ha:a∈ex)(ab:Hb a=none)(a1:co≠a)(a2:sl≠a)(a3:pl≠a)(V:∀xs,o≠.tup xs):iC CC CS Ms Hb ex (L2.upd G a o) co m sl pl r:=by
 obtain⟨dx,rv,H,h1,h2,I⟩:=c.hc;obtain⟨O,U,Y⟩:=c.hs;obtain⟨ps,W,J⟩:=c.hp;refine{c.ok,?_,c.i1,c.i2,c.i3,c.n1,c.n2,c.n3,{dx,rv,H,aW h1 a1,?_,?_},{O,aW U a2,?_},{ps,aW W a3,?_},c.wk,fun b hb=>?_}
 ·exact fun b o e=>(c.sm b o e).imp id (yt id (yt id fun z=>aW z (aw e ab)))
 ·rw[gW ha];exact h2
 ·rw[gW ha];exact I
 ·rw[gW ha];exact Y
 ·rw[gW ha];exact J
 ·by_cases z:b=a
  ·rw[z];exact⟨o,aj,V⟩
  ·obtain⟨o',e,Z⟩:=c.nt b hb;exact{o',aW e z,Z}
end
theorem Paired.snoc_inv{W Y:Type}{R:W->Y->Prop}:∀{ys:List Y} {xs:List W} {y:Y},aK R xs (ys++[y])->∃Z x,xs=Z++[x]/\aK R Z ys/\R x y
 | [],xs,y,p=>by
  cases p with
  |cons a b=>
   cases b;exact{[],_,rfl,.nil,a}
 |z::ys,xs,y,p=>by
  cases p with
  |cons a b=>
   obtain⟨Z,x,e,V,r⟩:=Paired.snoc_inv (ys:=ys) b;exact{_::Z,x,by rw[e];rfl,.cons a V,r}
theorem jx{Y Z:Type}{R:Y->Z->Prop}:∀{xs:List Y} {ys:List Z} {i:Nat} {y:Z},aK R xs ys->ys[i]?=some y->∃x,xs[i]?=some x/\R x y
 |_,_,i,y,.nil,h=>by simp at h
 |_,_,0,y,.cons a b,h=>by
  simp at h;subst h;exact{_,rfl,a}
 |_,_,i+1,y,.cons a b,h=>by
  obtain⟨x,h1,h2⟩:=jx (i:=i) (y:=y) b (by simpa using h);exact{x,by simpa using h1,h2}
theorem Paired.set{Y Z:Type}{R:Y->Z->Prop}:∀{xs:List Y} {ys:List Z},aK R xs ys->∀(i:Nat) {x:Y} {y:Z},R x y->aK R (xs.set i x) (ys.set i y)
 |_,_,.nil,i,x,y,h=>.nil
 |_,_,.cons a b,0,x,y,h=>.cons h b
 |_,_,.cons a b,i+1,x,y,h=>.cons a (Paired.set b i h)
theorem E7{W O:Type}{f:W->O}{xs ys:List O}(p:xs.Perm ys):∀us:List W,us.map f=ys->∃Z:List W,Z.Perm us/\Z.map f=xs:=by
 induction p with
 |nil=>
  intro us e;have:us=[]:=List.map_eq_nil_iff.mp e;subst this;exact{[],iB _,rfl}
 |cons x _ D=>
  intro us e
  cases us with
  |nil=>cases e
  |cons u us=>
   rw[cg]at e;obtain⟨e1,U⟩:=xh e;obtain⟨Z,H,J⟩:=D us U;exact{u::Z,H.cons u,by rw[cg,J,e1]}
 |swap x y l=>
  intro us e
  match us,e with
  |a::b::r,e=>
   rw[cg,cg]at e;obtain⟨e1,e⟩:=xh e;obtain⟨U,e3⟩:=xh e;exact{b::a::r,List.Perm.swap _ _ _,by rw[cg,cg,e1,U,e3]}
 |trans _ _ V Y=>
  intro us e;obtain⟨u1,z,I⟩:=Y us e;obtain⟨u2,p2,g⟩:=V u1 I;exact{u2,p2.trans z,g}
theorem vm{Y Z:Type}{R:Y->Z->Prop}:∀{us:List (Y×Z)},(∀u∈us,R u.1 u.2)->aK R (us.map (·.1)) (us.map (·.2))
 | [],_=>.nil
 |u::us,h=>.cons (h u aC) (vm fun v hv=>h v (ak _ hv))
theorem xi{Y Z:Type}{R:Y->Z->Prop}{xs:List Y}{ys:List Z}(p:aK R xs ys):(xs.zip ys).map (·.1)=xs/\(xs.zip ys).map (·.2)=ys/\∀u∈xs.zip ys,R u.1 u.2:=by
 induction p with
 |nil=>exact{rfl,rfl,fun u hu=>by cases hu}
 |cons a _ W=>
  obtain⟨h1,h2,V⟩:=W;refine{by rw[e8,cg,h1],by rw[e8,cg,h2],fun u hu=>?_};rw[e8]at hu
  rcases ar.mp hu with z|z
  ·rw[z];exact a
  ·exact V u z
theorem B7{G:Hp}{v:V}{e:Ev}(h:ib G v e):BQ G (v,e.key):=by
 obtain⟨t,k,e1,h1,h2⟩:=h;exact{t,k,_,e1,h1,h2}
theorem yu{F:Hp}{us:List (V×Ev)}{es:List Ev}{zs:List (V×List Int)}(hu:∀u∈us,ib F u.1 u.2)(p:zs.Perm (us.map fun u=>(u.1,u.2.key)))(f:qQ zs)(q:(us.map (·.2)).Perm es)(J:kX es):∃ps,zs.map (·.1)=ps/\aK (ib F) ps es:=by
 obtain⟨Z,U,O⟩:=E7 p us rfl;have h:=vm (R:=ib F) (us:=Z) fun u W=>hu u (U.mem_iff.mp W);have Y:kX (Z.map (·.2)):=by
  rw[<- O]at f;have I:=jW.mp f;exact jW.mpr I
 rw[uK Y J ((U.map _).trans q)]at h;refine{Z.map (·.1),?_,h};rw[<- O,dA];rfl
theorem Dw{F G:Hp}(s:bh F G){pl:aa}{v:V}{ps:List V}{pd:List Ev}{e:Ev}{Q:VK}{E:XK}(hp:G pl=some (.lst ps))(I:aK (ib F) ps pd)(J:kX pd)(hv:ib F v e)(nw:∀y∈pd,e.key≠y.key)(len:pd.length<=10000000)
  (k:∀Z,aK (ib F) Z (jZ e pd)->Q .non (upd G pl (.lst Z))):AJ [.ref pl,v] G Q E:=by
 obtain⟨z1,Y,H⟩:=xi I;have ln:=aZ I;obtain⟨t,kk,rfl,h1,h2⟩:=id hv;refine{pl,t,(ps.zip pd).map fun u=>(u.1,u.2.key),e.key,rfl,?_,fun z hz=>?_,?_,(B7 hv).imp fun a ⟨k,U,e1,O,e3⟩=>{k,U,e1,s _ _ O,s _ _ e3},?_,?_,fun bn p f=>?_}
 ·rw[dA];have:((fun x:V×List Int=>x.1) ∘ fun u:V×Ev=>(u.1,u.2.key))=(fun u:V×Ev=>u.1):=rfl;rw[this,z1];exact hp
 ·obtain⟨u,hu,rfl⟩:=cD.mp hz;obtain⟨a,k,U,e1,O,e3⟩:=B7 (H u hu);exact{a,k,U,e1,s _ _ O,s _ _ e3}
 ·refine jW.mpr ?_;have D:=J;rw[<- Y]at D;exact jW.mp D
 ·intro m;obtain⟨x,hx,ex⟩:=cD.mp m;obtain⟨u,hu,rfl⟩:=cD.mp hx;refine nw u.2 ?_ ex.symm;rw[<- Y];exact jh hu
 ·rw[au,qK];omega
 ·have hA:∀u∈(V.ref t,e)::ps.zip pd,ib F u.1 u.2:=fun u hu=>by
   rcases ar.mp hu with z|z
   ·rw[z];exact hv
   ·exact H u z
  have hB:(((V.ref t,e)::ps.zip pd).map (·.2)).Perm (jZ e pd):=by
   rw[cg,Y];exact (gR e pd).symm
  obtain⟨Z,g,W⟩:=yu hA p f hB (lD J nw);rw[g];exact k Z W
section
variable{P:aM}{w:bO}{K:af}{mg:Str->Option ae}{base:cC}{f:aa}{fd:bX}
theorem Iu:bN ["self"] ["self"] (aL o8):={}
theorem oP(F:Fun K "word" "Great.word" o8 f fd):qD P w K mg base CX0 1 f fd ["self"] (qP "great"):=by
 refine F.okH Iu (fun vs H Q E h=>?_) (fun Z A outer s H vs Q E h=>?_)
 ·obtain⟨a,rfl,_⟩:=h;rfl
 obtain⟨a,rfl,q⟩:=h;exact{_,aA (bE bS),q}
theorem KF:bN ["self"] ["self"] (aL qE):={}
theorem qU(F:Fun K "word" "Full.word" qE f fd):qD P w K mg base CX0 1 f fd ["self"] (qP "full"):=by
 refine F.okH KF (fun vs H Q E h=>?_) (fun Z A outer s H vs Q E h=>?_)
 ·obtain⟨a,rfl,_⟩:=h;rfl
 obtain⟨a,rfl,q⟩:=h;exact{_,aA (bE bS),q}
theorem Oj:bN ["self"] ["self"] (aL sO):={}
theorem tT(F:Fun K "word" "Dry.word" sO f fd):qD P w K mg base CX0 1 f fd ["self"] (qP "dry"):=by
 refine F.okH Oj (fun vs H Q E h=>?_) (fun Z A outer s H vs Q E h=>?_)
 ·obtain⟨a,rfl,_⟩:=h;rfl
 obtain⟨a,rfl,q⟩:=h;exact{_,aA (bE bS),q}
theorem KG:bN ["self"] ["self"] (aL qF):={}
theorem qV(F:Fun K "word" "Span.word" qF f fd):qD P w K mg base CX0 1 f fd ["self"] (qP "span"):=by
 refine F.okH KG (fun vs H Q E h=>?_) (fun Z A outer s H vs Q E h=>?_)
 ·obtain⟨a,rfl,_⟩:=h;rfl
 obtain⟨a,rfl,q⟩:=h;exact{_,aA (bE bS),q}
theorem KH:bN ["self"] ["self"] (aL qG):={}
theorem qW(F:Fun K "word" "Late.word" qG f fd):qD P w K mg base CX0 1 f fd ["self"] (qP "late"):=by
 refine F.okH KH (fun vs H Q E h=>?_) (fun Z A outer s H vs Q E h=>?_)
 ·obtain⟨a,rfl,_⟩:=h;rfl
 obtain⟨a,rfl,q⟩:=h;exact{_,aA (bE bS),q}
end
def pX{Z:Type}(a b c d e f:Z):Flt->Z
 |.nought=>a
 |.great=>b
 |.full=>c
 |.dry=>d
 |.span=>e
 |.late=>f
theorem gE.hid{ex:Ex}{G:Hp}{qa:List (Str×aa)}{qu:List (Str×List Int)}(n:∀a∈qa.map (·.2),a∉ex)(q:gE G qa qu):gE (Hid ex G) qa qu:=
 gE.keep (L:={0,0,0,0,0,0,0,0,0,0,.non,.non,qa}) (fun a u e m=>by rw[eg (n a m)];exact e) (fun _ h=>h) q
theorem ib.hid{ex:Ex}{G:Hp}(nt:∀a∈ex,∃o,G a=some o/\∀xs,o≠.tup xs){v:V}{e:Ev}(h:ib G v e):ib (Hid ex G) v e:=by
 obtain⟨t,k,e1,h1,h2⟩:=h;exact{t,k,e1,gA nt h1,gA nt h2}
theorem Dg.sta{CD CS:aa}{bs qs:List Str}{H0 G:Hp}{L:Lay}{h:Ev}{ds:List Int}{w:Wk}(g:Dg CD CS bs qs H0 G L h ds w){ex:Ex}(n:∀a∈L.all,a∉ex):jS CS (Hid ex G) L.st w.bx w.qu w.dr w.se:=
 {L.dxs,L.bd,L.qd,L.qa,by rw[eg (n _ LN)];exact g.hst,by rw[eg (n _ LO)];exact g.hb,by rw[eg (n _ in_qd)];exact g.hq,g.hl.hid fun a m=>n a (in_l m)}
theorem H9.told{CD CS:aa}{bs qs:List Str}{H G:Hp}{L:Lay}{h:Ev}{ds:List Int}{w:Wk}{t J wl:aa}{W O:List V}{qa:List (Str×aa)}(d:H9 CD CS bs qs H G L h ds w t J wl W O qa){ex:Ex}(nt:∀a∈ex,∃o,H a=some o/\∀xs,o≠.tup xs) :
  ∃vs,G L.od=some (.lst vs)/\L.od∉ex/\aK (ib (Hid ex G)) vs w.out/\RcIn (Hid ex G) (.ref J) {h,wrB bs w,wrQ qs w,w.out}:=by
 have Z:∀a∈ex,∃o,G a=some o/\∀xs,o≠.tup xs:=fun a ha=>by
  obtain⟨o,e,n⟩:=nt a ha;exact{o,d.sm _ _ e,n}
 have nx:∀{a},H a=none->a∉ex:=fun {a} z m=>by
  obtain⟨o,e,_⟩:=nt a m;rw[z]at e
  cases e
 obtain⟨H0,s0,g⟩:=d.dg;obtain⟨vs,I,D⟩:=g.ho;obtain⟨k,h1,h2⟩:=d.hrc;have U:L.od∉ex:=nx (none_of s0 (g.fr _ LP));have Y:=Paired.mono (fun _ _ z=>ib.hid Z z) D;refine{vs,I,U,Y,J,k,wl,L.od,W,O,vs,qa,rfl,gA Z h1,gA Z (d.sm _ _ h2),?_,Paired.mono (fun _ _ z=>z.keep fun a xs e=>gA Z e) d.wr.b,Paired.mono (fun _ _ z=>z.keep fun a xs e=>gA Z e) d.wr.q,d.wr.l.hid fun a m=>nx (d.wr.fr a (ak _ m)),?_,Y}
 ·rw[eg (nx (d.wr.fr _ aC))];exact d.wr.hl
 ·rw[eg U];exact I
theorem qM.clean{bs qs:List Str}{w:Wk}(k:qM bs qs w):qM bs qs (w0 w.bx w.qu w.dr w.se):=
 {k.kb,k.kq,k.nb,k.nq,k.wb,k.wq,iV,(fun x hx=>by cases hx),iV,(fun x hx=>by cases hx),(fun x hx=>by cases hx),k.fw}
theorem Dx{P:Ds->Prop}{hs:List (Str×Ds)}(h:∀q∈hs,P q.2)(n:P .nil)(sg:Str):P (jK hs sg):=by
 unfold jK
 cases e:hs.lookup sg with
 |none=>exact n
 |some d=>exact h _ (qN e)
def ToldR(F:Hp)(v:V):List Rec->Prop
 | []=>v=.non
 |q::_=>RcIn F v q
def Oth(ex:Ex)(co sl pl:aa)(H G:Hp):Prop:=∀a,a≠co->a≠sl->a≠pl->∀o,H a=some o->G a=some o
theorem B8{Hb H G:Hp}{co sl pl:aa}(s:∀b o,Hb b=some o->b≠co/\b≠sl/\b≠pl/\H b=some o)(ot:∀a,a≠co->a≠sl->a≠pl->∀o,H a=some o->G a=some o):∀b o,Hb b=some o->b≠co/\b≠sl/\b≠pl/\G b=some o:=fun b o e=>by
 obtain⟨n1,n2,n3,z⟩:=s b o e;exact{n1,n2,n3,ot b n1 n2 n3 o z}
theorem bL.some{ι:Type}{P:aM}{w:bO}{K:af}{mg:Str->Option ae}{base:cC}{CX:CXT}{k:Nat}{f:aa}{fd:bX}{ps:List Str}{sp:ι->Sp}(F:∀i,bL P w K mg base CX k f fd ps (sp i)) :
  bL P w K mg base CX k f fd ps (fun vs H Q E=>∃i,sp i vs H Q E):=
 {fun vs H Q E ⟨i,q⟩=>(F i).len vs H Q E q,fun A outer s H args us vs Q E hr Z hb hv ⟨i,hs⟩=>(F i).run A outer s H args us vs Q E hr Z hb hv hs}
theorem KI{X:Cx}{o value:cU}{f:Str}{ta tv:TE}{pos pos':Pos}(K:af)(Z:X.K=K)(ha:PE X o ta)(hv:PE X value tv)(hs:uR value (some (.Attribute o f pos')) pos.line X.env=pure false):PS X (.Assign [.Attribute o f pos'] value pos) (sFld K ta tv f):=by
 rw[<- Z];exact eT ha hv hs
theorem rW{σ:St}{H:Hp}{Q:List V->Hp->Prop}(h:Q [] H):Bm σ H Q:=h
theorem B9{D:nv}{σ:St}{H:Hp}(h:D.nx σ H):jq D σ H:=h
theorem E8(xs:List Ev)(x:Ev)(pd:List Ev):l8 (xs++[x]) pd=jZ x (l8 xs pd):=by
 unfold l8;rw[vi];rfl
section
variable{P:aM}{w:bO}{K:af}{mg:Str->Option ae}{base:cC}{f fPu fDn CC CM CS CD CF:aa}{fd fdPu fdDn:bX}{cf fW:Flt->aa}{fdW:Flt->bX}
seal PS PSs PE PA PT PW PI PG PGs PC
inductive L7(CC CS:aa)(vs:List V)(H:Hp)(Q:VK)(_e:XK):Prop where
 |mk(Ms:List MD)(Hb:Hp)(ex:Ex)(co m sl pl:aa)(r:RS)(left:Int)(_:vs=[.ref co,.int left])(_:iC CC CS Ms Hb ex H co m sl pl r)(_:∀v G,bh H G->((gN r left=none/\v=.non)\/∃e,gN r left=some e/\lA (Hid ex G) v e)->Q v G):L7 CC CS vs H Q _e
def Ol(CC CS:aa):Sp:=fun vs H Q Z=>L7 CC CS vs H Q Z
theorem scEd:bN ["self","left"] ["self","left"] (aL fV):={}
theorem yv(M:Mt K CC "ending_due" "Course.ending_due" fV ["self","left"] f fd)(T:CoT K mg CC):bL P w K mg base CX0 1 f fd ["self","left"] (Ol CC CS):=by
 refine M.F.ok scEd (fun vs H Q E h=>?_) (fun I A outer s H vs Q E hr h=>?_)
 ·obtain⟨Ms,Hb,ex,co,m,sl,pl,r,left,rfl,_⟩:=h;rfl
 obtain⟨Ms,Hb,ex,co,m,sl,pl,r,left,rfl,c,q⟩:=h;refine⟨_,ah (cH (qe (yJ (cV (pv 0) rfl))) (aA (bE (cV (pv 0) rfl))) bP)
  (ah (cH (ny (wz (cV (pv 0) rfl) (fun _=>rfl))) (aA (bE (dZ (aq bS ag)))) bP)
  (ah (cH (bQ op_le (pv 1) av (cq _)) (aA (bE (dZ (aq bS ag)))) bP)
  (aA (bE v9)))),?_⟩
 obtain⟨dx,rv,U,h1,h2,Z⟩:=c.hc;obtain⟨ps,O,J⟩:=c.hp;have nl:=aZ J;have Y:∀{G:Hp},bh H G->∀a∈ex,∃o,G a=some o/\∀xs,o≠.tup xs:=fun s a ha=>by
  obtain⟨o,e,n⟩:=c.nt a ha;exact{o,s _ _ e,n}
 cases hsp:r.sp with
 |some st=>
  rw[hsp]at Z;have V:gN r left=some (.stp st):=by
   unfold gN;rw[hsp]
  obtain⟨t,rfl⟩:∃t,U=.ref t:=by
   cases st with
   |fin h=>
    obtain⟨t,_,e,_⟩:=Z;exact⟨t,e⟩
   |flt e h=>
    obtain⟨t,_,e,_⟩:=Z;exact⟨t,e⟩
  refine{_,rfl,co,CC,dx,_,_,rfl,h1,T.cl,T.nE,KD _ _ _ _ _,_,rfl,gG ?_};exact{_,rfl,co,CC,dx,_,_,rfl,h1,T.cl,T.nE,KD _ _ _ _ _,q _ _ (bh.refl _) (.inr {_,V,Z})}
 |none=>
  rw[hsp]at Z;have Z:U=.non:=Z;subst Z;refine{_,rfl,co,CC,dx,_,_,rfl,h1,T.cl,T.nE,KD _ _ _ _ _,_,rfl,eE ?_};refine{_,rfl,co,CC,dx,_,_,rfl,h1,T.cl,T.nP,Ir _ _ _ _ _,_,.inl {_,SqL.of O,rfl},?_}
  cases ps with
  |nil=>
   have W:r.pd=[]:=List.eq_nil_of_length_eq_zero nl.symm;refine gG {B3,fun t ht=>q _ _ (aE ht _) (.inr {.empty,?_,t,rfl,gA (Y (aE ht _)) aj})};unfold gN;rw[hsp,W];rfl
  |cons x xs=>
   have W:r.pd.isEmpty=false:=by
    cases z:r.pd with
    |nil=>
     rw[z]at nl
     cases nl
    |cons _ _=>rfl
   refine eE ?_;refine{_,rfl,_,_,rfl,rfl,_,rfl,gC (fun cc=>?_) (fun cc=>?_)}
   ·have cc:=of_decide_eq_true cc;refine{B3,fun t ht=>q _ _ (aE ht _) (.inr {.cut,?_,t,rfl,gA (Y (aE ht _)) aj})};unfold gN;rw[hsp];dsimp only;rw[W,if_neg (by decide),if_pos cc]
   ·have cc:¬left<=0:=fun z=>cc (decide_eq_true z);refine q _ _ (bh.refl _) (.inl {?_,rfl});unfold gN;rw[hsp];dsimp only;rw[W,if_neg (by decide),if_neg cc]
inductive Iv(CC CM CS:aa)(vs:List V)(H:Hp)(Q:VK)(_e:XK):Prop where
 |mk(Ms:List MD)(Hb:Hp)(ex:Ex)(co m sl pl:aa)(r:RS)(_:vs=[.ref co])(_:vB CM Ms Hb m)(_:iC CC CS Ms Hb ex H co m sl pl r)(_:r.sp=none)(_:r.pd≠[])(_:r.pd.length<=9000000)(_:∀v G,iC CC CS Ms Hb ex G co m sl pl (eJ Ms r).1->bh (Hid ex H) (Hid ex G)->Oth ex co sl pl H G->ToldR (Hid ex G) v (eJ Ms r).2->Q v G):Iv CC CM CS vs H Q _e
def L8(CC CM CS:aa):Sp:=fun vs H Q Z=>Iv CC CM CS vs H Q Z
abbrev nD1:List Str:=["self","happening","at","told","fault","sent"]
theorem E9:bN nD1 ["self"] (aL iq):={}
theorem Om{n j:Nat}(h:j<n):ixN n (j:Int)=some j:=by
 unfold ixN;rw[if_pos (by omega),if_pos (by omega)];simp
theorem xj(M:Mt K CC "do_one" "Course.do_one" iq ["self"] f fd)(iF:Df K mg "put_in" qH ["falling","thing"] fPu fdPu)(hB:bL P w K mg base CX0 2 fPu fdPu ["falling","thing"] AJ)
  (kc:Df K mg "done" zh ["model","state","happening"] fDn fdDn) (gt:∀bq:List Str×List Str,bL P w K mg base (CXo P w) 37 fDn fdDn ["model","state","happening"] (Ia cf CM CD CS bq.1 bq.2 5))
  (mW:∀e,yQ K (cf e) "word" (fW e)) (bW:∀e,Binds K (fdW e) ["self"] []) (GW:∀e,qD P w K mg base CX0 1 (fW e) (fdW e) ["self"] (qP (rV e))) (XN:∀e,lQ K (cf e)) (mF:mg "Fault"=some (.ref CF)) (hx:∀e,cN K (.ref (cf e)) (.ref CF)=some true) (T:CoT K mg CC) (TM:MdT K mg CM CS) :
  bL P w K mg base CX0 38 f fd ["self"] (L8 CC CM CS):=by
 have GD:=bL.some gt;refine M.F.ok E9 (fun vs H Q E h=>?_) (fun ek A outer s H vs Q E hr h=>?_)
 ·obtain⟨Ms,Hb,ex,co,m,sl,pl,r,rfl,_⟩:=h;rfl
 obtain⟨Ms,Hb,ex,co,m,sl,pl,r,rfl,hM,c,hn,fk,el,k⟩:=h;have r1:cZ 1 _:=hr.mono (by decide);have r2:cZ 2 _:=hr.mono (by decide);obtain⟨dx,rv,sv,io,gw,kw⟩:=c.hc;obtain⟨ss,ge,ka⟩:=c.hs;obtain⟨ps,hN,hL⟩:=c.hp
 -- the last one
 obtain⟨h,hl⟩:∃h,r.pd.getLast?=some h:=by
  cases e:r.pd.getLast? with
  |none=>exact absurd (zx.mp e) fk
  |some h=>exact⟨h,rfl⟩
 have lp:=xa hl;have fG:h∈r.pd:=by
  rw[lp];exact bj _ (aD.mpr rfl)
 have eo:=c.ok.ev h fG;obtain⟨j,hj⟩:∃j:Nat,h.to=(j:Int):={h.to.toNat,by have:=eo.to0;omega};have jl:j<Ms.length:=by have:=eo.to1;omega
 have ej:h.to.toNat=j:=by omega
 have js:j<r.sts.length:=by rw[c.ok.len];exact jl
 obtain⟨Mm,lr⟩:∃M,Ms[j]?=some M:={_,aH jl};obtain⟨st0,lv⟩:∃s,r.sts[j]?=some s:={_,aH js};have d:Did Ms r h Mm st0:={lp,by rw[ej];exact lr,by rw[ej];exact lv};obtain⟨Z,v,hF,kz,hv⟩:∃Z v,ps=Z++[v]/\aK (ib (Hid ex H)) Z r.pd.dropLast/\ib (Hid ex H) v h:=by
  rw[lp]at hL;exact Paired.snoc_inv hL
 obtain⟨th,Y,rfl,gr,hS⟩:=id hv
 -- the bA and the machine
 obtain⟨eH,ml,fs,hm,hA,xs,fx,ft⟩:=id hM;obtain⟨mv,hC,hH⟩:=jx ft lr;obtain⟨sta,ky,gM⟩:=jx ka lv;have dk:=Dx (P:=fun D=>D.toOk (Ms.length:Int)/\D.deep<=4/\D.size<=3*ddz 4) hH.hk {by simp only[Ds.toOk],by simp only[Ds.deep];omega,by simp only[Ds.size];omega} h.sg;have dz:3*ddz 4<=5000:=by decide
 refine⟨_,ah (bJ (i:=1) E9.nd rfl (Or.inl rfl) (Nr cF zW zX Nt (cV (pv 0) rfl)))
  (ah (bJ (i:=2) E9.nd rfl (Or.inl rfl) (bY cA (pv 1) av (fun _ _=>rfl)))
  (ah (Ka (fun C σ G=>∃(e:Flt) (u3 u4 u5:Option V),C=cf e/\σ=[some (.ref co),some (.ref th),some (.int h.to),u3,u4,u5]/\doS h Mm.ds (jK Mm.hs h.sg) st0.w=.error e/\bh (upd H pl (.lst Z)) G)
    (fun pins=>aA (bJ (i:=3) E9.nd rfl (Or.inl rfl) (Ah GD hr (by rfl) kc.m kc.F.kp kc.b wM (aq (d7 K (by rfl) (pv 0) (by rfl)) (aq (bY (Ic K (by rfl)) (d7 K (by rfl) (pv 0) (by rfl)) (pv 2) (fun _ _=>rfl)) (aq (pv 1) ag))))))
    (He 4 (by rfl) mF E9.nd rfl rfl (fun ea=>ah (KI K (by rfl) (pv 0) (dZ (aq bS (aq (EU (ι:=Flt) (C:=cf) (fm:=fW) (fd:=fdW) (sp:=fun e=>qP (rV e)) (pv 4) XN mW GW ⟨rfl,r1.dp,r1.un⟩ bW bC) (aq (bY (pG K (by rfl)) (pv 1) av (fun _ _=>rfl)) ag)))) rfl) (aA (bE v9))) CO)
    bP)
  (ah (ug (bY cA (pv 3) av (fun _ _=>rfl)) (yM (cV (pv 0) rfl) (pv 2) tw))
  (ah (eT (pv 0) (bY cA (pv 1) av (fun _ _=>rfl)) rfl)
  (ah (jX dC rfl (jB (bY cA (bY cA (pv 3) av (fun _ _=>rfl)) av (fun _ _=>rfl))) (eA (i:=5) E9.nd rfl (Or.inl rfl)) (aA (e7 (aI hB r2 (by rfl) iF.m iF.F.kp iF.b .nil bC (aq (cV (pv 0) rfl) (aq (pv 5) ag))))))
  (ah (cH (gJ (bY cA (pv 3) av (fun _ _=>rfl))) (aA (eT (pv 0) (dZ (aq bS (aq (bY cA (pv 1) av (fun _ _=>rfl)) ag))) rfl)) bP)
  (aA (bE (bY cA (pv 3) av (fun _ _=>rfl)))))))))),?_⟩
 subst hF
 -- it is taken out
 refine bU (cO ?_);refine{_,rfl,co,CC,dx,_,_,rfl,io,T.cl,T.nP,Ir _ _ _ _ _,.inl {rfl,_,SqL.of hN},pl,_,.ref th,rfl,rfl,hN,?_,?_}
 ·rw[ay];show (Z++[V.ref th])[Z.length+1-1]?=_;rw[GK,df (ax _),mJ];rfl
 rw[rT];refine bK ?_;dsimp only;have F1:Hid ex (upd H pl (.lst Z))=Hid ex H:=gW c.i3;have md:upd H pl (.lst Z) co=some (.ins CC dx (iu (.ref m) (.ref sl) (.ref pl) rv sv)):=aW io c.n2;have lM:upd H pl (.lst Z) sl=some (.lst (ss.map V.ref)):=aW ge c.n3;have la:upd H pl (.lst Z) pl=some (.lst Z):=aj;have mb:∀a∈ex,∃o,upd H pl (.lst Z) a=some o/\∀xs,o≠.tup xs:=fun a ha=>by
  by_cases z:a=pl
  ·rw[z];exact{_,aj,fun xs z=>by cases z}
  ·obtain⟨o,e,n⟩:=c.nt a ha;exact{o,aW e z,n}
 have mc:Oth ex co sl pl H (upd H pl (.lst Z)):=fun a _ _ z o e=>aW e z;revert F1 md lM la mb mc;generalize upd H pl (.lst Z)=G1;intro F1 md lM la mb mc;have ix:bh (Hid ex H) G1:=by
  rw[<- F1];exact cW
 have ki:bh Hb G1:=fun b o e=>by
  obtain⟨n1,n2,n3,z⟩:=c.sm b o e;exact mc b n1 n2 n3 o z
 have mm:=ix _ _ gr;refine bU (cO ?_);refine{_,rfl,th,_,_,_,rfl,rfl,SqT.of mm,rfl,?_};refine bK ?_;dsimp only;refine bU ?_;refine{?_,fun C eh W hl ht=>?_}
 ·refine cO ?_;have hg:atI (ss.map V.ref) h.to=some (.ref sta):=by
   rw[hj];exact je (by rw[cQ,ky];rfl)
  refine{_,rfl,co,CC,dx,_,_,rfl,md,T.cl,T.nM,co_m _ _ _ _ _,_,rfl,co,CC,dx,_,_,rfl,md,T.cl,T.nS,Iq _ _ _ _ _,_,rfl,sl,_,_,_,rfl,rfl,SqL.of lM,hg,_,rfl,?_};refine{(Mm.bs,Mm.qs),m,eH,ml,sta,fs,xs,.ref th,mv,h,Mm.ds,Mm.hs,st0.bx,st0.qu,st0.dr,st0.se,rfl,ki _ _ hm,hA,ki _ _ fx,hv.same ix,by rw[hj];exact je hC,(hH.same ki).ma,jS.same' ix gM,c.wk j Mm st0 lr lv,eo.wt,eo.wa,eo.wb,by omega,by omega,?_}
  cases ew:doS h Mm.ds (jK Mm.hs h.sg) (w0 st0.bx st0.qu st0.dr st0.se) with
  |error e=>
   exact fun W s6=>{_,rfl,e,_,_,_,rfl,rfl,ew,s6}
  |ok I=>
   intro W L t6 rc wl et ei qa Dn;have kG:doS h Mm.ds (jK Mm.hs h.sg) st0.w=.ok I:=ew;rw[tS d kG]at k;have N:=oM (m:=(Ms.length:Int)) _ _ _ dk.1 kG;obtain⟨hI,ip,ey⟩:=xb c.ok d N;obtain⟨H0,s0,g⟩:=Dn.dg;have mn:=Io c.ok d kG N g.ok.wo;rw[tS d kG]at mn;obtain⟨vs,fa,hY,hO,kv⟩:=Dn.told mb;have mq:=Dn.sm;obtain⟨kk,hrc,_⟩:=Dn.hrc;have nx:∀a∈L.all,a∉ex:=fun a ha z=>by
    obtain⟨o,e,_⟩:=mb a z;have:=g.fr a ha;rw[s0 _ _ e]at this
    cases this
   have gl:=g.sta nx;have f6:bh (Hid ex H) (Hid ex W):=by
    rw[<- F1];exact gv mq
   have er:bh (Hid ex W) W:=cW;have hX:=mq _ _ md;have il:=mq _ _ lM;have gd:=mq _ _ la;have fe:Oth ex co sl pl H W:=fun a n1 n2 n3 o e=>mq _ _ (mc a n1 n2 n3 o e);have lk:∀a∈ex,∃o,W a=some o/\∀xs,o≠.tup xs:=fun a ha=>by
    obtain⟨o,e,n⟩:=mb a ha;exact{o,mq _ _ e,n}
   refine bK ?_;refine B9 ?_;dsimp only;refine B9 ?_;dsimp only
   -- the new state
   have fz:j<(ss.map V.ref).length:=(aG.mp (show (ss.map V.ref)[j]?=some (.ref sta) by rw[cQ,ky];rfl)).1;refine bU (cO ?_);refine{_,rfl,t6,_,_,_,rfl,rfl,SqT.of Dn.ht,rfl,?_};refine{_,rfl,co,CC,dx,_,_,rfl,hX,T.cl,T.nS,Iq _ _ _ _ _,_,rfl,sl,_,_,j,rfl,rfl,il,by rw[hj];exact Om fz,?_}
   -- its key is reached
   have hR:upd W sl (.lst ((ss.map V.ref).set j (.ref L.st))) th=some (.tup [.ref Y,.int h.to,.str h.sg,.int h.a,.int h.b]):=aW (mq _ _ mm) (pO (mq _ _ mm) il (by intro z;cases z));have hD:upd W sl (.lst ((ss.map V.ref).set j (.ref L.st))) co=some (.ins CC dx (iu (.ref m) (.ref sl) (.ref pl) rv sv)):=aW hX c.n1;refine bU ?_;refine{_,rfl,th,_,_,_,rfl,rfl,SqT.of hR,rfl,_,rfl,co,CC,dx,_,rfl,hD,T.cl,T.nR,xf _ _ _ _ _,?_};rw[Dv];have F8:Hid ex (upd (upd W sl (.lst ((ss.map V.ref).set j (.ref L.st)))) co (.ins CC dx (iu (.ref m) (.ref sl) (.ref pl) (.ref Y) sv)))=Hid ex W:=by
    rw[gW c.i1,gW c.i2]
   have lj:upd (upd W sl (.lst ((ss.map V.ref).set j (.ref L.st)))) co (.ins CC dx (iu (.ref m) (.ref sl) (.ref pl) (.ref Y) sv)) co=some (.ins CC dx (iu (.ref m) (.ref sl) (.ref pl) (.ref Y) sv)):=aj;have kI:upd (upd W sl (.lst ((ss.map V.ref).set j (.ref L.st)))) co (.ins CC dx (iu (.ref m) (.ref sl) (.ref pl) (.ref Y) sv)) sl=some (.lst ((ss.map V.ref).set j (.ref L.st))):=aW aj c.n1.symm;have ke:upd (upd W sl (.lst ((ss.map V.ref).set j (.ref L.st)))) co (.ins CC dx (iu (.ref m) (.ref sl) (.ref pl) (.ref Y) sv)) pl=some (.lst Z):=aW (aW gd c.n3.symm) c.n2.symm;have jp:Oth ex co sl pl H (upd (upd W sl (.lst ((ss.map V.ref).set j (.ref L.st)))) co (.ins CC dx (iu (.ref m) (.ref sl) (.ref pl) (.ref Y) sv))):=fun a n1 n2 n3 o e=>aW (aW (fe a n1 n2 n3 o e) n2) n1;have jn:∀a∈ex,∃o,upd (upd W sl (.lst ((ss.map V.ref).set j (.ref L.st)))) co (.ins CC dx (iu (.ref m) (.ref sl) (.ref pl) (.ref Y) sv)) a=some o/\∀xs,o≠.tup xs:=fun a ha=>by
    by_cases z:a=co
    ·rw[z];exact{_,aj,fun xs z=>by cases z}
    ·by_cases y:a=sl
     ·rw[y];exact{_,kI,fun xs z=>by cases z}
     ·obtain⟨o,e,n⟩:=lk a ha;exact{o,aW (aW e y) z,n}
   revert F8 lj kI ke jp jn;generalize upd (upd W sl (.lst ((ss.map V.ref).set j (.ref L.st)))) co (.ins CC dx (iu (.ref m) (.ref sl) (.ref pl) (.ref Y) sv))=G8;intro F8 lj kI ke jp jn;have lx:bh (Hid ex W) G8:=by
    rw[<- F8];exact cW
   have lf:Hid ex W t6=some (.tup [.ref L.st,.ref rc,.bl I.en]):=gA lk Dn.ht;have hG:Hid ex W rc=_:=gA lk hrc;have kB:Hid ex W L.od=some (.lst vs):=by
    rw[eg hY];exact fa
   have ii:Hid ex W th=_:=gA lk (mq _ _ mm);have ls:Hid ex W Y=some (B6 h):=f6 _ _ hS
   -- what was sent is put in
   have hz:kX r.pd.dropLast:=by
    have z:=c.ok.fall;rw[lp]at z;exact (oO z).1
   have hK:L.od≠pl:=fun z=>hY (by rw[z];exact c.i3);refine bU ?_;refine⟨_,rfl,t6,_,_,_,rfl,rfl,SqT.of (lx _ _ lf),rfl,rc,_,_,_,rfl,rfl,SqT.of (lx _ _ hG),rfl,L.od,rfl,{_,SqL.of (lx _ _ kB)},ko (K:=K) (a:=L.od) (xs:=vs) (fun i σ G'=>∃(u4 u:Option V) (ps:List V),σ=[some (.ref co),some (.ref th),some (.int h.to),some (.ref t6),u4,u]/\G' pl=some (.lst ps)/\aK (ib (Hid ex W)) ps (l8 (I.out.take i) r.pd.dropLast)/\But pl G8 G')
    {_,_,Z,rfl,ke,by rw[jV];exact Paired.mono (fun _ _ z=>z.same f6) kz,But.refl _ _} ?_ ?_ ?_⟩
   ·rintro i σ G' _ ⟨_,_,_,rfl,_,_,b⟩;exact SqL.of (b _ _ (lx _ _ kB) hK)
   ·rintro i x σ G' hi ⟨u4,u,ps,rfl,g1,g2,b⟩;obtain⟨e,he,eL⟩:=oJ hO hi;have hf:bh (Hid ex W) G':=fun a o z=>b _ _ (lx _ _ z) fun y=>gO z (by rw[y];exact c.i3);have mem:e∈I.out:=cB he;have tk:I.out.take (i+1)=I.out.take i++[e]:=by
     rw[gs,he];rfl
    have fo:∀x∈I.out.take i,x.key≠e.key:=fun x hx=>by
     have pw:=ip;rw[<- rC (i+1) I.out,tk]at pw;exact (g9.mp (g9.mp pw).1).2.2 x hx e (aD.mpr rfl)
    have fall:kX (l8 (I.out.take i) r.pd.dropLast):=lE hz (fun x hx=>hI x (Dy hx)) (ip.sublist (uW _ _));refine{_,rfl,co,CC,dx,_,_,rfl,b _ _ lj c.n2,T.cl,T.nP,Ir _ _ _ _ _,_,rfl,?_};refine rW ?_;show AJ [V.ref pl,x] G' _ _;refine Dw (F:=Hid ex W) hf g1 g2 fall eL (fun y hy=>?_) ?_ fun eF ih=>?_
    ·rcases bZ.mp ((eI _ _).mem_iff.mp hy) with z|z
     ·exact fun q=>fo y z q.symm
     ·exact hI e mem y z
    ·rw[(eI _ _).length_eq,ay,kU,dH];obtain⟨new,e1,e2,_⟩:=N.ex;have e1:I.out=new:=e1;have:=dk.2.2;rw[e1];omega
    ·refine{_,_,eF,rfl,aj,?_,b.trans (But.upd pl _ _)};rw[tk,E8];exact ih
   rintro σ G9 ⟨u4,u,em,rfl,g1,g2,b⟩;have ez:vs.length=I.out.length:=aZ hO;rw[ez,fg]at g2;have F9:bh (Hid ex W) (Hid ex G9):=by
    rw[<- F8];exact Og fun a o e n=>b _ _ e fun y=>n (by rw[y];exact c.i3)
   have kt:bh (Hid ex W) G9:=F9.trans cW;have hP:=b _ _ lj c.n2;have kn:=b _ _ kI c.n3;have lc:Oth ex co sl pl H G9:=fun a n1 n2 n3 o e=>b _ _ (jp a n1 n2 n3 o e) n3;have iv:∀a∈ex,∃o,G9 a=some o/\∀xs,o≠.tup xs:=fun a ha=>by
    by_cases z:a=pl
    ·rw[z];exact{_,g1,fun xs z=>by cases z}
    ·obtain⟨o,e,n⟩:=jn a ha;exact{o,b _ _ e z,n}
   have hQ:∀(i:Nat) (M:MD) (s:Sta),Ms[i]?=some M->(r.sts.set h.to.toNat ⟨I.bx,I.qu,I.dr,I.se⟩)[i]?=some s->qM M.bs M.qs s.w:=fun i M s hi hs=>by
    rw[ej]at hs
    by_cases z:i=j
    ·rw[z,fX js]at hs;rw[z,lr]at hi
     cases hs
     cases hi;exact g.ok.clean
    ·rw[iU (fun y=>z y.symm)]at hs;exact c.wk i M s hi hs
   have im:∀{F:Hp},bh (Hid ex W) F->aK (StA CS F) (ss.set j L.st) (r.sts.set h.to.toNat ⟨I.bx,I.qu,I.dr,I.se⟩):=fun {F} s=>by
    rw[ej];exact Paired.set (Paired.mono (fun _ _ z=>jS.same' (f6.trans s) z) ka) j (jS.same' s gl)
   have hE:(ss.map V.ref).set j (.ref L.st)=(ss.set j L.st).map V.ref:=List.map_set.symm;rw[hE]at kn;refine bU ?_;refine{_,rfl,t6,_,_,_,rfl,rfl,SqT.of (kt _ _ lf),rfl,I.en,rfl,?_}
   cases een:I.en with
   |true=>
    rw[een]at k mn;refine gG ?_;refine{_,rfl,th,_,_,_,rfl,rfl,SqT.of (kt _ _ ii),rfl,lt2,fun J ly=>?_};have sz:=aE ly (.tup [.str "end",.ref Y]);refine{_,rfl,co,CC,dx,_,rfl,sz _ _ hP,T.cl,T.nE,xf _ _ _ _ _,?_};rw[zw];have U:Hid ex (upd (upd G9 J (.tup [.str "end",.ref Y])) co (.ins CC dx (iu (.ref m) (.ref sl) (.ref pl) (.ref Y) (.ref J))))=Hid ex (upd G9 J (.tup [.str "end",.ref Y])):=gW c.i1;have lw:∀a∈ex,∃o,upd G9 J (.tup [.str "end",.ref Y]) a=some o/\∀xs,o≠.tup xs:=fun a ha=>by
     obtain⟨o,e,n⟩:=iv a ha;exact{o,sz _ _ e,n}
    have O:bh (Hid ex W) (Hid ex (upd G9 J (.tup [.str "end",.ref Y]))):=F9.trans (gv sz);have mf:Hid ex (upd G9 J (.tup [.str "end",.ref Y])) J=some (.tup [.str "end",.ref Y]):=gA lw aj;have lz:∀{a:aa} {o:HO},a≠co->upd G9 J (.tup [.str "end",.ref Y]) a=some o->upd (upd G9 J (.tup [.str "end",.ref Y])) co (.ins CC dx (iu (.ref m) (.ref sl) (.ref pl) (.ref Y) (.ref J))) a=some o:=fun n e=>aW e n;have hT:bh (Hid ex W) (upd (upd G9 J (.tup [.str "end",.ref Y])) co (.ins CC dx (iu (.ref m) (.ref sl) (.ref pl) (.ref Y) (.ref J)))):=by
     refine bh.trans O ?_;rw[<- U];exact cW
    refine{_,rfl,t6,_,_,_,rfl,rfl,SqT.of (hT _ _ lf),rfl,?_};refine k _ _ {mn,?_,c.i1,c.i2,c.i3,c.n1,c.n2,c.n3,{dx,_,_,aj,?_,?_},{_,lz c.n1.symm (sz _ _ kn),?_},{_,lz c.n2.symm (sz _ _ g1),?_},hQ,fun a ha=>?_} ?_ ?_ ?_
    ·exact B8 c.sm fun a n1 n2 n3 o e=>lz n1 (sz _ _ (lc a n1 n2 n3 o e))
    ·rw[U];exact{Y,rfl,O _ _ ls}
    ·rw[U];exact{J,Y,rfl,mf,O _ _ ls}
    ·rw[U];exact im O
    ·rw[U];exact Paired.mono (fun _ _ z=>z.same O) g2
    ·by_cases z:a=co
     ·rw[z];exact{_,aj,fun xs z=>by cases z}
     ·obtain⟨o,e,n⟩:=lw a ha;exact{o,lz z e,n}
    ·rw[U];exact f6.trans O
    ·exact fun a n1 n2 n3 o e=>lz n1 (sz _ _ (lc a n1 n2 n3 o e))
    ·rw[U];exact kv.same O
   |false=>
    rw[een]at k mn;refine eE ?_;have gq:sv=.non:=by
     rw[hn]at kw;exact kw
    refine{_,rfl,t6,_,_,_,rfl,rfl,SqT.of (kt _ _ lf),rfl,?_};exact k _ _ {mn,B8 c.sm lc,c.i1,c.i2,c.i3,c.n1,c.n2,c.n3,{dx,_,_,hP,{Y,rfl,F9 _ _ ls},gq},{_,kn,im F9},{_,g1,Paired.mono (fun _ _ z=>z.same F9) g2},hQ,iv} (f6.trans F9) lc (kv.same F9)
 ·-- a fault
  obtain⟨e,u3,u4,u5,rfl,rfl,ew,s6⟩:=ht;rw[qS d ew]at k;have mn:=E6 c.ok d ew;rw[qS d ew]at mn;refine .inl {hx e,fun ea fy=>?_};have sx:=aE fy (XO ea (cf e));have s7:=s6.trans sx;have f7:bh (Hid ex H) (Hid ex (upd W ea (XO ea (cf e)))):=by
   rw[<- F1];exact gv s7
  refine bU ?_;refine{_,rfl,ea,e,rfl,aj,_,rfl,_,rfl,th,_,_,_,rfl,rfl,SqT.of (s7 _ _ mm),rfl,(by show 3<=aB;decide),fun J ly=>?_};have sz:=aE ly (.tup [.str "fault",.str (rV e),.ref Y]);have s8:=s7.trans sz;refine{_,rfl,co,CC,dx,_,rfl,s8 _ _ md,T.cl,T.nE,xf _ _ _ _ _,?_};rw[zw];revert ly sz s8;generalize upd W ea (XO ea (cf e))=G7 at f7 |-;intro ly sz s8;have U:Hid ex (upd (upd G7 J (.tup [.str "fault",.str (rV e),.ref Y])) co (.ins CC dx (iu (.ref m) (.ref sl) (.ref pl) rv (.ref J))))=Hid ex (upd G7 J (.tup [.str "fault",.str (rV e),.ref Y])):=gW c.i1;have lw:∀a∈ex,∃o,upd G7 J (.tup [.str "fault",.str (rV e),.ref Y]) a=some o/\∀xs,o≠.tup xs:=fun a ha=>by
   obtain⟨o,e,n⟩:=mb a ha;exact{o,s8 _ _ e,n}
  have O:bh (Hid ex H) (Hid ex (upd G7 J (.tup [.str "fault",.str (rV e),.ref Y]))):=f7.trans (gv sz);have mf:Hid ex (upd G7 J (.tup [.str "fault",.str (rV e),.ref Y])) J=some (.tup [.str "fault",.str (rV e),.ref Y]):=gA lw aj;refine k _ _ {mn,?_,c.i1,c.i2,c.i3,c.n1,c.n2,c.n3,{dx,_,_,aj,?_,?_},{ss,aW (s8 _ _ lM) c.n1.symm,?_},{Z,aW (s8 _ _ la) c.n2.symm,?_},c.wk,fun a ha=>?_} ?_ ?_ rfl
  ·exact B8 c.sm fun a n1 n2 n3 o e=>aW (s8 _ _ (mc a n1 n2 n3 o e)) n1
  ·rw[U];exact gw.same O
  ·rw[U];exact{J,Y,rfl,mf,O _ _ hS}
  ·rw[U];exact Paired.mono (fun _ _ z=>jS.same' O z) ka
  ·rw[U];exact Paired.mono (fun _ _ z=>z.same O) kz
  ·by_cases z:a=co
   ·rw[z];exact{_,aj,fun xs z=>by cases z}
   ·obtain⟨o,e,n⟩:=lw a ha;exact{o,aW e z,n}
  ·rw[U];exact O
  ·exact fun a n1 n2 n3 o e=>aW (s8 _ _ (mc a n1 n2 n3 o e)) n1
end
def p5(Ms:List MD):Prop:=∀M∈Ms,∀q∈M.hs,q.2.toOk (Ms.length:Int)/\q.2.deep<=4/\q.2.size<=3*ddz 4
theorem vB.ok{CM:aa}{Ms:List MD}{H:Hp}{m:aa}(h:vB CM Ms H m):p5 Ms:=by
 obtain⟨dx,Y,fs,_,_,xs,_,p⟩:=h;intro M hM;obtain⟨j,Z⟩:=dI hM;obtain⟨x,_,z⟩:=jx p Z;exact z.hk
theorem On{Ms:List MD}{r:RS}(k:ROk Ms.length r)(n:r.pd≠[]):∃h M s,Did Ms r h M s:=by
 obtain⟨h,hl⟩:∃h,r.pd.getLast?=some h:=by
  cases e:r.pd.getLast? with
  |none=>exact absurd (zx.mp e) n
  |some h=>exact⟨h,rfl⟩
 have Z:=xa hl;have Y:h∈r.pd:=by
  rw[Z];exact bj _ (aD.mpr rfl)
 have W:=k.ev h Y;have V:h.to.toNat<Ms.length:=by have:=W.to1;have:=W.to0;omega
 have U:h.to.toNat<r.sts.length:=by rw[k.len];exact V
 exact{h,_,_,Z,aH V,aH U}
inductive Iw(Ms:List MD)(r:RS):Prop
 |err(h:Ev)(M:MD)(s:Sta)(e:Flt)(d:Did Ms r h M s)(q:doS h M.ds (jK M.hs h.sg) s.w=.error e)(eq:eJ Ms r=({r with pd:=r.pd.dropLast,sp:=some (.flt e h)},[]))
 |ok(h:Ev)(M:MD)(s:Sta)(w:Wk)(d:Did Ms r h M s)(q:doS h M.ds (jK M.hs h.sg) s.w=.ok w)(N:News (Ms.length:Int) h (3*ddz 4) s.w w)
   (eq:eJ Ms r=(⟨r.sts.set h.to.toNat ⟨w.bx,w.qu,w.dr,w.se⟩,l8 w.out r.pd.dropLast,some h,if w.en=true then some (.fin h) else none⟩,[⟨h,wrB M.bs w,wrQ M.qs w,w.out⟩]))
theorem kg{Ms:List MD}{r:RS}(mo:p5 Ms)(k:ROk Ms.length r)(n:r.pd≠[]):Iw Ms r:=by
 obtain⟨h,M,s,d⟩:=On k n;have dk:=Dx (P:=fun D=>D.toOk (Ms.length:Int)/\D.deep<=4/\D.size<=3*ddz 4) (mo M (cB d.hM)) ⟨by simp only[Ds.toOk],by simp only[Ds.deep];omega,by simp only[Ds.size];omega⟩ h.sg
 cases q:doS h M.ds (jK M.hs h.sg) s.w with
 |error e=>exact .err h M s e d q (qS d q)
 |ok w=>exact .ok h M s w d q ((oM _ _ _ dk.1 q).le dk.2.2) (tS d q)
theorem gx{r:RS}{left:Int}(h:gN r left=none):r.sp=none/\r.pd≠[]/\0<left:=by
 unfold gN at h
 split at h
 ·cases h
 ·rename_i e
  split at h
  ·cases h
  ·rename_i c
   split at h
   ·cases h
   ·refine{e,fun z=>?_,by omega};rw[z]at c;exact c rfl
theorem Oo{r:RS}{left:Int}{s:Stp}(h:r.sp=some s):gN r left=some (.stp s):=by
 unfold gN;rw[h]
theorem tU{Ms:List MD}{r:RS}(h:Iw Ms r):(eJ Ms r).1.pd.length<=r.pd.length+5000*(eJ Ms r).2.length/\((∃q,(eJ Ms r).2=[q])\/((eJ Ms r).2=[]/\∃s,(eJ Ms r).1.sp=some s)):=by
 cases h with
 |err h M s e d q eq=>
  rw[eq];refine{?_,.inr {rfl,_,rfl}};show r.pd.dropLast.length<=_;rw[kU];omega
 |ok h M s w d q N eq=>
  rw[eq];refine{?_,.inl {_,rfl}};show (l8 w.out r.pd.dropLast).length<=r.pd.length+5000*1;rw[(eI _ _).length_eq,ay,kU];obtain⟨new,e1,Z,_⟩:=N.ex;have e1:w.out=new:=e1;have Y:3*ddz 4<=5000:=by decide
  rw[e1];omega
def jd(Ms:List MD)(r:RS)(Z:Int)(i:Nat)(e:End):Prop:=(∀j,j<i->ROk Ms.length (itR Ms r j).1/\gN (itR Ms r j).1 (Z-(itR Ms r j).2.length)=none)/\gN (itR Ms r i).1 (Z-(itR Ms r i).2.length)=some e/\ROk Ms.length (itR Ms r i).1
def rMu(σ:St)(G:Hp):Nat:=match (σ[3]?:Option (Option V)),(σ[2]?:Option (Option V)) with
 |some (some .non),some (some (.ref rl))=>(match G rl with|some (.lst rs)=>1+(2000-rs.length)|_=>0)
 |_,_=>0
theorem Dz{σ:St}{G:Hp}{rl:aa}{rs:List V}(Y:σ[3]?=some (some .non))(Z:σ[2]?=some (some (.ref rl)))(hr:G rl=some (.lst rs)):rMu σ G=1+(2000-rs.length):=by
 unfold rMu;rw[Y,Z];dsimp only;rw[hr]
theorem DG{σ:St}{G:Hp}{t:aa}(Z:σ[3]?=some (some (.ref t))):rMu σ G=0:=by
 unfold rMu;rw[Z]
theorem lA.ref{F:Hp}{v:V}:∀{e:End},lA F v e->∃t,v=.ref t
 |.empty,⟨t,e,_⟩=>⟨t,e⟩
 |.cut,⟨t,e,_⟩=>⟨t,e⟩
 |.stp (.fin _),⟨t,_,e,_⟩=>⟨t,e⟩
 |.stp (.flt _ _),⟨t,_,e,_⟩=>⟨t,e⟩
section
variable{P:aM}{w:bO}{K:af}{mg:Str->Option ae}{base:cC}{f fE fO CC CM CS:aa}{fd fdE fdO:bX}
seal PS PSs PE PA PT PW PI PG PGs PC
structure Ran(CC CS:aa)(Ms:List MD)(Hb:Hp)(ex:Ex)(co m sl pl:aa)(r:RS)(most:Int)(H G:Hp)(t:aa)(i:Nat)(e:End):Prop where
 st:jd Ms r most i e
 cc:iC CC CS Ms Hb ex G co m sl pl (itR Ms r i).1
 sm:bh (Hid ex H) (Hid ex G)
 ot:Oth ex co sl pl H G
 rs:∃rl en rvs,Hid ex G t=some (.tup [.ref rl,en])/\Hid ex G rl=some (.lst rvs)/\H rl=none/\aK (RcIn (Hid ex G)) rvs (itR Ms r i).2/\lA (Hid ex G) en e
inductive Iy(CC CM CS:aa)(vs:List V)(H:Hp)(Q:VK)(_e:XK):Prop where
 |mk(Ms:List MD)(Hb:Hp)(ex:Ex)(co m sl pl:aa)(r:RS)(most:Int)(_:vs=[.ref co,.int most])(_:vB CM Ms Hb m)(_:iC CC CS Ms Hb ex H co m sl pl r)(_:most<=1000)(_:r.pd.length<=1000000)(_:∀G t i e,Ran CC CS Ms Hb ex co m sl pl r most H G t i e->Q (.ref t) G):Iy CC CM CS vs H Q _e
def AL(CC CM CS:aa):Sp:=fun vs H Q Z=>Iy CC CM CS vs H Q Z
abbrev nRn:List Str:=["course","most","records","ending","record"]
theorem Iz:bN nRn ["course","most"] (aL lT):={}
theorem xk(D:Df K mg "run_on" lT ["course","most"] f fd)(ME:Mt K CC "ending_due" "Course.ending_due" fV ["self","left"] fE fdE)(GE:bL P w K mg base CX0 1 fE fdE ["self","left"] (Ol CC CS))
  (MO:Mt K CC "do_one" "Course.do_one" iq ["self"] fO fdO) (GO:bL P w K mg base CX0 38 fO fdO ["self"] (L8 CC CM CS)) (T:CoT K mg CC) (B:Bl mg) :
  bL P w K mg base CX0 39 f fd ["course","most"] (AL CC CM CS):=by
 refine D.F.ok Iz (fun vs H Q E h=>?_) (fun dz A outer s H vs Q E hr h=>?_)
 ·obtain⟨Ms,Hb,ex,co,m,sl,pl,r,Z,rfl,_⟩:=h;rfl
 obtain⟨Ms,Hb,ex,co,m,sl,pl,r,Z,rfl,hM,c,ee,dL,k⟩:=h;have r1:cZ 1 _:=hr.mono (by decide);refine⟨_,ah (bJ (i:=2) Iz.nd rfl (Or.inl rfl) (eU ag))
  (ah (bJ (i:=3) Iz.nd rfl (Or.inl rfl) (gj (pv 0) T.cl ME.m GE r1 ME.b .nil bC (aq (pv 1) ag)))
  (ah (wx dC (qe (FB (pv 3)))
   (ah (bJ (i:=4) Iz.nd rfl (Or.inl rfl) (jb (pv 0) T.cl MO.m GO hr MO.b .nil bC))
   (ah (cH (qe (yJ (pv 4))) (aA (e7 (pT cF dJ dM iO (pv 2) (aq (pv 4) ag)))) bP)
   (aA (bJ (i:=3) Iz.nd rfl (Or.inl rfl) (gj (pv 0) T.cl ME.m GE r1 ME.b .nil bC (aq (cR jk (pv 1) (cb (eu K (by rfl)) (by rfl) B.len cu (aq (pv 2) ag))) ag)))))))
  (aA (bE (dZ (aq (pv 2) (aq (pv 3) ag))))))),?_⟩
 have eL:∀{G:Hp} {r':RS} {ex':Ex},iC CC CS Ms Hb ex' G co m sl pl r'->∃dx fs,G co=some (.ins CC dx fs)/\fs.lookup ("ending_due":Str)=none/\fs.lookup ("do_one":Str)=none:=fun c'=>by
  obtain⟨dx,rv,sv,h1,_⟩:=c'.hc;exact{dx,_,h1,xg _ _ _ _ _ (by decide +kernel),xg _ _ _ _ _ (by decide +kernel)}
 have mo:=hM.ok
 -- no records
 refine bU (cO ?_);refine{cm _,fun rl U=>?_};refine bK ?_;dsimp only;have c0:=c.more (o:=.lst []) U (fun xs z=>by cases z);have et:upd H rl (.lst []) rl=some (.lst []):=aj;have f0:bh (Hid ex H) (Hid (ex.add rl) (upd H rl (.lst []))):=by
  rw[qT U];exact bh.refl _
 have ew:Oth ex co sl pl H (upd H rl (.lst [])):=fun a _ _ _ o e=>aW e (aw e U);have n1:co≠rl:=by
  obtain⟨dx,rv,sv,h1,_⟩:=c.hc;exact aw h1 U
 have n2:sl≠rl:=by
  obtain⟨ss,h1,_⟩:=c.hs;exact aw h1 U
 have n3:pl≠rl:=by
  obtain⟨ss,h1,_⟩:=c.hp;exact aw h1 U
 have eo:Hb rl=none:=by
  cases z:Hb rl with
  |none=>rfl
  |some o=>
   have y:=(c.sm _ _ z).2.2.2;rw[U]at y
   cases y
 revert c0 et f0 ew;generalize upd H rl (.lst [])=G0;intro c0 et f0 ew;refine bU (cO ?_);obtain⟨dx,fs,g,fz,fa⟩:=eL c0;refine{_,rfl,co,dx,fs,rfl,g,fz,_,rfl,Ms,Hb,ex.add rl,co,m,sl,pl,r,Z,rfl,c0,fun en G1 s1 fy=>?_};refine bK ?_;dsimp only;refine bU ?_;refine z8 (fun σ G=>∃(i:Nat) (en:V) (u4:Option V) (Y:List V),σ=[some (.ref co),some (.int Z),some (.ref rl),some en,u4]/\(∀j,j<i->ROk Ms.length (itR Ms r j).1/\gN (itR Ms r j).1 (Z-(itR Ms r j).2.length)=none)/\iC CC CS Ms Hb (ex.add rl) G co m sl pl (itR Ms r i).1 /\
   G rl=some (.lst Y)/\aK (RcIn (Hid (ex.add rl) G)) Y (itR Ms r i).2/\bh (Hid ex H) (Hid (ex.add rl) G)/\Oth ex co sl pl H G/\(itR Ms r i).1.pd.length<=1000000+5000*(itR Ms r i).2.length /\
   ((gN (itR Ms r i).1 (Z-(itR Ms r i).2.length)=none/\en=.non)\/∃e,gN (itR Ms r i).1 (Z-(itR Ms r i).2.length)=some e/\lA (Hid (ex.add rl) G) en e)) rMu ?_ ?_ ?_
 ·refine{0,en,_,[],rfl,fun j hj=>absurd hj (gz _),c0.same s1,s1 _ _ et,.nil,f0.trans (gv s1),fun a q1 q2 q3 o e=>s1 _ _ (ew a q1 q2 q3 o e),by show r.pd.length<=_;omega,?_};have e0:Z-(((itR Ms r 0).2.length:Nat):Int)=Z:=by
   show Z-((0:Nat):Int)=Z;omega
  rw[e0];exact fy
 ·clear fy;rintro σ G ⟨i,en,u4,Y,rfl,hj,c1,fx,fo,f1,ej,dG,hd⟩;have ea:=aZ fo
  rcases hd with⟨hd,rfl⟩|⟨e,hd,fy⟩
  ·obtain⟨d1,d2,d3⟩:=gx hd;have si:=kg mo c1.ok d2;obtain⟨eH,eb⟩:=tU si;refine{_,rfl,_,rfl,gG ?_};refine bU (cO ?_);obtain⟨dx,fs,g,fz,fa⟩:=eL c1;refine{_,rfl,co,dx,fs,rfl,g,fa,Ms,Hb,ex.add rl,co,m,sl,pl,_,rfl,hM,c1,d1,d2,by omega,fun v G2 c2 f2 em tl=>?_};refine bK ?_;dsimp only;have fG:G2 rl=some (.lst Y):=em rl n1.symm n2.symm n3.symm _ fx;have eF:Oth ex co sl pl H G2:=fun a q1 q2 q3 o e=>em a q1 q2 q3 o (ej a q1 q2 q3 o e);have el:rMu [some (.ref co),some (.int Z),some (.ref rl),some .non,u4] G=1+(2000-Y.length):=Dz rfl rfl fx;have big:2000<aB:=by decide
   have fk:itR Ms r (i+1)=((eJ Ms (itR Ms r i).1).1,(itR Ms r i).2++(eJ Ms (itR Ms r i).1).2):=rfl;have ek:∀j,j<i+1->ROk Ms.length (itR Ms r j).1/\gN (itR Ms r j).1 (Z-(itR Ms r j).2.length)=none:=fun j dV=>by
    rcases vy j i with z|z
    ·exact hj j z
    ·have:j=i:=by omega
     rw[this];exact⟨c1.ok,hd⟩
   rcases eb with⟨q,eq⟩|⟨eq,sp,eh⟩
   ·rw[eq]at tl eH;obtain⟨I,ed⟩:∃I,v=.ref I:=by
     obtain⟨I,_,_,_,_,_,_,_,e,_⟩:=tl;exact⟨I,e⟩
    subst ed;refine bU ?_;refine{_,rfl,_,rfl,gG ?_};refine{_,rfl,.inl {rfl,_,SqL.of fG},_,rfl,rl,Y,.ref I,rfl,rfl,fG,by omega,?_};have c3:=c2.upd (a:=rl) (o:=.lst (Y++[.ref I])) Ex.here eo n1 n2 n3 (fun xs z=>by cases z);have J:upd G2 rl (.lst (Y++[.ref I])) rl=some (.lst (Y++[.ref I])):=aj;have f3:Hid (ex.add rl) (upd G2 rl (.lst (Y++[.ref I])))=Hid (ex.add rl) G2:=gW Ex.here;have ey:Oth ex co sl pl H (upd G2 rl (.lst (Y++[.ref I]))):=fun a q1 q2 q3 o e=>aW (eF a q1 q2 q3 o e) (aw e U);have W:aK (RcIn (Hid (ex.add rl) (upd G2 rl (.lst (Y++[.ref I]))))) (Y++[.ref I]) (itR Ms r (i+1)).2:=by
     rw[f3,fk,eq];exact eR (Paired.mono (fun _ _ z=>z.same f2) fo) tl
    have er:bh (Hid ex H) (Hid (ex.add rl) (upd G2 rl (.lst (Y++[.ref I])))):=by
     rw[f3];exact f1.trans f2
    have O:iC CC CS Ms Hb (ex.add rl) (upd G2 rl (.lst (Y++[.ref I]))) co m sl pl (itR Ms r (i+1)).1:=c3;revert O J ey W er;clear c3 f3;generalize upd G2 rl (.lst (Y++[.ref I]))=G3;intro J ey W er O;have l3:=aZ W;dsimp only;refine cO ?_;obtain⟨dx,fs,g,fz,fa⟩:=eL O;refine{_,rfl,co,dx,fs,rfl,g,fz,_,rfl,_,rfl,rl,_,rfl,.inl (SqL.of J),_,_,rfl,rfl,Ms,Hb,ex.add rl,co,m,sl,pl,_,_,rfl,O,fun fe G4 s4 gd=>?_};refine bK ?_;dsimp only;refine{{i+1,fe,_,_,rfl,ek,O.same s4,s4 _ _ J,Paired.mono (fun _ _ z=>z.same (gv s4)) W,er.trans (gv s4),fun a q1 q2 q3 o e=>s4 _ _ (ey a q1 q2 q3 o e),?_,?_},?_}
    ·rw[fk,eq,ay];show (eJ Ms (itR Ms r i).1).1.pd.length<=_;show _<=1000000+5000*((itR Ms r i).2.length+1);simp only[aS,cy]at eH;omega
    ·rw[<- l3];exact gd
    ·rw[el]
     rcases gd with⟨_,rfl⟩|⟨e,_,he⟩
     ·rw[Dz rfl rfl (s4 _ _ J),ay];simp only[aS,cy];omega
     ·obtain⟨t,rfl⟩:=he.ref;rw[DG rfl];omega
   ·rw[eq]at tl eH;have tl:v=.non:=tl;subst tl;refine bU ?_;refine{_,rfl,_,rfl,eE (B9 ?_)};dsimp only;have O:iC CC CS Ms Hb (ex.add rl) G2 co m sl pl (itR Ms r (i+1)).1:=c2;have W:aK (RcIn (Hid (ex.add rl) G2)) Y (itR Ms r (i+1)).2:=by
     rw[fk,eq,cL];exact Paired.mono (fun _ _ z=>z.same f2) fo
    have l3:=aZ W;refine cO ?_;obtain⟨dx,fs,g,fz,fa⟩:=eL O;refine{_,rfl,co,dx,fs,rfl,g,fz,_,rfl,_,rfl,rl,_,rfl,.inl (SqL.of fG),_,_,rfl,rfl,Ms,Hb,ex.add rl,co,m,sl,pl,_,_,rfl,O,fun fe G4 s4 gd=>?_};refine bK ?_;dsimp only;have ez:∃e,gN (itR Ms r (i+1)).1 (Z-(Y.length:Int))=some e/\lA (Hid (ex.add rl) G4) fe e:=by
     rcases gd with⟨z,_⟩|z
     ·have y:gN (itR Ms r (i+1)).1 (Z-(Y.length:Int))=some (.stp sp):=Oo eh;rw[y]at z
      cases z
     ·exact z
    refine{{i+1,fe,_,_,rfl,ek,O.same s4,s4 _ _ fG,Paired.mono (fun _ _ z=>z.same (gv s4)) W,(f1.trans f2).trans (gv s4),fun a q1 q2 q3 o e=>s4 _ _ (eF a q1 q2 q3 o e),?_,?_},?_}
    ·rw[fk,eq,cL];show (eJ Ms (itR Ms r i).1).1.pd.length<=1000000+5000*(itR Ms r i).2.length;simp only[cy]at eH;omega
    ·rw[<- l3];exact .inr ez
    ·rw[el];obtain⟨e,_,he⟩:=ez;obtain⟨t,rfl⟩:=he.ref;rw[DG rfl];omega
  ·obtain⟨t0,rfl⟩:=fy.ref;refine{_,rfl,_,rfl,eE ?_};dsimp only;refine eW ?_;refine{_,rfl,_,rfl,lt2,fun t ht=>?_};have ft:=aE ht (.tup [.ref rl,.ref t0]);have f5:bh (Hid (ex.add rl) G) (Hid ex (upd G t (.tup [.ref rl,.ref t0]))):=(gv ft).trans AK;have ei:rl∉ex:=fun z=>by
    obtain⟨o,e,_⟩:=c.nt rl z;rw[U]at e
    cases e
   have ef:∀a∈ex,∃o,upd G t (.tup [.ref rl,.ref t0]) a=some o/\∀xs,o≠.tup xs:=fun a ha=>by
    obtain⟨o,e,n⟩:=c1.nt a (Ex.more ha);exact{o,ft _ _ e,n}
   exact k _ t i e {⟨hj,hd,c1.ok⟩,(c1.same ft).less n1 n2 n3,f1.trans f5,fun a q1 q2 q3 o e=>ft _ _ (ej a q1 q2 q3 o e),rl,_,Y,gA ef aj,by rw[eg ei];exact ft _ _ fx,U,Paired.mono (fun _ _ z=>z.same f5) fo,fy.same f5}
 ·rintro σ G4 Q1 Q2 hq ⟨x,hx,c,ec,z⟩;exact{x,hx,c,ec,hq _ _ z}
end
def st0(M:MD):Sta:={M.ps,M.qs.map fun q=>(q,[]),0,0}
def pH(es:List Ev):List Ev:=es.mapIdx fun i e=>atP e i
def cS(Ms:List MD)(es:List Ev):RS:={Ms.map st0,l8 (pH es) [],none,none}
theorem nZ{Y Z:Type}{R:Y->Z->Prop}:∀{xs:List Y} {ys:List Z},xs.length=ys.length->(∀(i:Nat) x y,xs[i]?=some x->ys[i]?=some y->R x y)->aK R xs ys
 | [],[],_,_=>.nil
 | [],_::_,l,_=>by cases l
 |_::_,[],l,_=>by cases l
 |x::xs,y::ys,l,h=>.cons (h 0 x y rfl rfl) (nZ (by simpa using l) fun i a b ha hb=>h (i+1) a b (by simpa using ha) (by simpa using hb))
theorem oQ(es:List Ev):(pH es).length=es.length:=List.length_mapIdx
theorem rD{es:List Ev}{i:Nat}{x:Ev}(h:(pH es)[i]?=some x):∃e,es[i]?=some e/\x=atP e i:=by
 unfold pH at h;rw[List.getElem?_mapIdx]at h
 cases z:es[i]? with
 |none=>
  rw[z]at h
  cases h
 |some e=>
  rw[z]at h
  cases h;exact⟨e,rfl,rfl⟩
theorem DH(es:List Ev):(pH es).Pairwise (fun a b=>a.key≠b.key):=by
 refine dD.mpr fun i j hi Z lt=>?_;obtain⟨e,_,h1⟩:=rD (es:=es) (i:=i) (x:=(pH es)[i]) (aH hi);obtain⟨Y,_,h2⟩:=rD (es:=es) (i:=j) (x:=(pH es)[j]) (aH Z);rw[h1,h2];refine nY (.inr ?_);show (i:Int)≠(j:Int);omega
theorem DI{Ms:List MD}{es:List Ev}(h:∀e∈es,qR Ms.length e):ROk Ms.length (cS Ms es):=by
 refine{au _,lE List.Pairwise.nil (fun x _ y hy=>by cases hy) (DH es),fun e Z=>?_,fun e Z=>?_}
 ·rcases bZ.mp ((eI _ _).mem_iff.mp Z) with z|z
  ·obtain⟨i,hi⟩:=dI z;obtain⟨Y,h',rfl⟩:=rD hi;obtain⟨a,b,c,d,f⟩:=h Y (cB h');exact⟨a,b,c,d,f⟩
  ·cases z
 ·rcases bZ.mp ((eI _ _).mem_iff.mp Z) with z|z
  ·obtain⟨i,hi⟩:=dI z;obtain⟨Y,h',rfl⟩:=rD hi;exact .inl rfl
  ·cases z
theorem New.sta{H H':Hp}{CS st dx bd qd:aa}{Z:List aa}{M:MD}(N:New H H' CS st M.ps M.qs dx bd qd Z)(nb:(M.ps.map (·.1)).Nodup)(nq:M.qs.Nodup):StA CS H' st (st0 M):=by
 have inj:∀xs:List Str,xs.Nodup->(xs.map (Sum.inr:Str->Key)).Nodup:=fun xs h=>List.Pairwise.map _ (fun a b z y=>z (mK y)) h;refine{dx,bd,qd,M.qs.zip Z,N.hst,?_,?_,?_}
 ·have z:H' bd=some (.dK (rS (boK M.ps) [])):=N.hbd;have e:rS (boK M.ps) []=boK M.ps:=by
   rw[BV]
   ·exact lF _
   ·rw[lF];unfold boK;rw[dA];have:=inj _ nb;rw[dA]at this;exact this
  rw[e]at z;exact z
 ·have z:H' qd=some (.dK (rS (quK (M.qs.zip Z)) [])):=N.hqd;have e:rS (quK (M.qs.zip Z)) []=quK (M.qs.zip Z):=by
   rw[BV]
   ·exact lF _
   ·rw[lF];unfold quK;rw[dA];have e1:(M.qs.zip Z).map ((fun x:Key×V=>x.1) ∘ fun p:Str×aa=>((Sum.inr p.1:Key),V.ref p.2))=((M.qs.zip Z).map (·.1)).map (Sum.inr:Str->Key):=by
     rw[dA];rfl
    rw[e1,List.map_fst_zip (by rw[N.len];exact ax _)];exact inj _ nq
  rw[e]at z;exact z
 ·refine nZ ?_ fun i x y hx hy=>?_
  ·show _=((M.qs.map fun q=>(q,([]:List Int)))).length;rw[qK,au,N.len,Nat.min_self]
  ·have hx:=zc.mp hx;have hy:(M.qs.map fun q=>(q,([]:List Int)))[i]?=some y:=hy;rw[cQ,hx.1]at hy
   cases hy;exact{rfl,(N.li _ (cB hx.2)).2}
theorem iT{H:Hp}{a:aa}(n:H a=none):a∉({[],H}:Ex):=fun z=>z.elim (fun y=>by cases y) fun⟨o,e,_⟩=>by
 have e:H a=some o:=e;rw[n]at e
 cases e
theorem New.hid{H0 H H':Hp}{CS st dx bd qd:aa}{Z:List aa}{ps:List (Str×Int)}{qs:List Str}(s:bh H0 H)(N:New H H' CS st ps qs dx bd qd Z):New (fun _=>none) (Hid {[],H0} H') CS st ps qs dx bd qd Z:=
 {by rw[eg (iT (none_of s N.ost))];exact N.hst,by rw[eg (iT (none_of s N.obd))];exact N.hbd,by rw[eg (iT (none_of s N.oqd))];exact N.hqd,N.len,N.nd,fun l hl=>{rfl,by rw[eg (iT (none_of s (N.li l hl).1))];exact (N.li l hl).2},rfl,rfl,rfl,N.ne,fun a o e=>by cases e}
theorem IA{H G G':Hp}{l:List aa}(s:bh G G'):bh (Hid ⟨l,H⟩ G) (Hid {[],H} G'):=fun a o e=>by
 have Z:a∉({[],H}:Ex):=fun z=>gO e (z.elim (fun y=>by cases y) .inr);rw[eg Z];exact s _ _ (cW _ _ e)
theorem xl{H G G':Hp}{l:List aa}(s:bh G G')(n:∀a∈l,G a=none):bh (Hid {[],H} G) (Hid ⟨l,H⟩ G'):=fun a o e=>by
 have Z:=cW _ _ e;have Y:a∉(⟨l,H⟩:Ex):=fun z=>z.elim (fun y=>by rw[n a y]at Z;cases Z) fun y=>gO e (.inr y);rw[eg Y];exact s _ _ Z
theorem MoI.wk0{m:Int}{H:Hp}{v:V}{M:MD}(h:MoI m H v M):qM M.bs M.qs (st0 M).w:=by
 have Y:(10:Int)^15=1000000000000000:=by decide
 refine{h.kb,?_,h.nb,h.nq,fun p hp=>?_,fun p hp=>?_,iV,(fun x hx=>by cases hx),iV,(fun x hx=>by cases hx),(fun x hx=>by cases hx),?_}
 ·show (M.qs.map fun q=>(q,([]:List Int))).map (·.1)=_;rw[dA];exact List.map_id _
 ·exact h.wb p hp
 ·obtain⟨q,_,rfl⟩:=cD.mp hp;exact{cm _,fun n Z=>by cases Z}
 ·rw[ay];have:=h.lb;have:=h.lq;omega
section
variable{P:aM}{w:bO}{K:af}{mg:Str->Option ae}{base:cC}{f fI fF fPf fA fR fBk CC CM CS CB:aa}{fd fdI fdF fdPf fdA fdR fdBk:bX}
seal PS PSs PE PA PT PW PI PG PGs PC
inductive L9(CC:aa)(vs:List V)(H:Hp)(Q:VK)(_e:XK):Prop where
 |mk(b dx:aa)(m s p:V)(_:vs=[.ref b,m,s,p])(_:H b=some (.ins CC dx []))(_:∀G,G b=some (.ins CC dx (iu m s p .non .non))->But b H G->Q .non G):L9 CC vs H Q _e
def Oq(CC:aa):Sp:=fun vs H Q Z=>L9 CC vs H Q Z
theorem scCI:bN ["self","model","states","pending"] ["self","model","states","pending"] (aL nU):={}
theorem xm(F:Fun K "__init__" "Course.__init__" nU f fd)(T:CoT K mg CC):bL P w K mg base CX0 1 f fd ["self","model","states","pending"] (Oq CC):=by
 refine F.ok scCI (fun vs H Q E h=>?_) (fun Y A outer s H vs Q E hr h=>?_)
 ·obtain⟨b,dx,m,s',p,rfl,_⟩:=h;rfl
 obtain⟨b,dx,m,s',p,rfl,hb,k⟩:=h;refine{_,ah (eT (pv 0) (pv 1) rfl) (ah (eT (pv 0) (pv 2) rfl) (ah (eT (pv 0) (pv 3) rfl) (ah (eT (pv 0) v9 rfl) (aA (eT (pv 0) v9 rfl))))),?_};have Z:=hV "model" m [];have U:=hV "states" s' (cJ "model" m []);have W:=hV "pending" p (cJ "states" s' (cJ "model" m []));have V:=hV "reached" .non (cJ "pending" p (cJ "states" s' (cJ "model" m [])));simp only[cy]at Z;refine{_,rfl,_,rfl,b,CC,dx,[],rfl,hb,T.cl,T.nM,(by show 0<1000;decide),_,rfl,_,rfl,b,CC,dx,_,rfl,aj,T.cl,T.nS,(by omega),_,rfl,_,rfl,b,CC,dx,_,rfl,aj,T.cl,T.nP,(by omega),?_};refine{_,rfl,b,CC,dx,_,rfl,aj,T.cl,T.nR,(by omega),_,rfl,b,CC,dx,_,rfl,aj,T.cl,T.nE,(by omega),?_};rw[Oi];exact k _ aj (((((But.upd b H _).trans (But.upd b _ _)).trans (But.upd b _ _)).trans (But.upd b _ _)).trans (But.upd b _ _))
inductive IB(CC CM CS:aa)(vs:List V)(H:Hp)(Q:VK)(_e:XK):Prop where
 |mk(Ms:List MD)(m sgl:aa)(svs:List V)(es:List Ev)(_:vs=[.ref m,.ref sgl])(_:vB CM Ms H m)(_:Ms.length<1000)(_:H sgl=some (.lst svs))(_:aK (mI H) svs es)(_:es.length<64)(_:(∀e∈es,qR Ms.length e))(_:∀(G:Hp) (co sl pl:aa),iC CC CS Ms H ⟨[co,sl,pl],H⟩ G co m sl pl (cS Ms es)->Q (.ref co) G):IB CC CM CS vs H Q _e
def DJ(CC CM CS:aa):Sp:=fun vs H Q Z=>IB CC CM CS vs H Q Z
abbrev nCa:List Str:=["model","signs","states"]
theorem scCa:bN nCa ["model","signs"] (aL fv):={}
theorem ndCa:((["at"]:List Str)++nCa).Nodup:=by decide +kernel
theorem zy(D:Df K mg "course_at_first" fv ["model","signs"] f fd)(DF:Df K mg "first_state" j9 ["model","at"] fF fdF)(GF:bL P w K mg base CX0 3 fF fdF ["model","at"] (Az CM CS))(gM:Df K mg "pending_at_first" gc ["signs"] fPf fdPf)(em:bL P w K mg base CX0 1 fPf fdPf ["signs"] Ig)
  (MC:Mk K CC fI) (bI:Binds K fdI ["self","model","states","pending"] []) (GI:bL P w K mg base CX0 1 fI fdI ["self","model","states","pending"] (Oq CC)) (T:CoT K mg CC) (TM:MdT K mg CM CS) (B:Bl mg) (BS:mg "sorted"=none) :
  bL P w K mg base CX0 4 f fd ["model","signs"] (DJ CC CM CS):=by
 refine D.F.ok scCa (fun vs H Q E h=>?_) (fun ea A outer s H vs Q E hr h=>?_)
 ·obtain⟨Ms,m,fy,fx,es,rfl,_⟩:=h;rfl
 obtain⟨Ms,m,fy,fx,es,rfl,hM,ee,ez,ey,eb,gr,k⟩:=h;have hu:=mO hr;have ek:=BF hr;have h5:=jF (Fp (by decide:5<=50) _) ek;have r1:cZ 1 _:=hr.mono (by decide);have r2:cZ 2 _:=hr.mono (by decide);have r3:cZ 3 _:=hr.mono (by decide);refine⟨_,ah (CT (i:=2) ["at"] (iX.open (NN:=nCa) (N:=nCa) (sc:=aL fv) rfl rfl (by decide +kernel) rfl (by decide +kernel) (by decide +kernel) rfl (by decide +kernel)) rfl scCa.nd rfl (Or.inl rfl) (jr (by rfl) B.range (aq (cb (eu K (by rfl)) (by rfl) B.len cu (aq (d7 K (by rfl) (pv 0) (by rfl)) ag)) ag)) (fun _ _ _ _=>eA (i:=0) ndCa rfl (Or.inl rfl)) (fun _ _ _ _=>lu)
   (fun _ _ _ _=>aI GF r3 (by rfl) DF.m DF.F.kp DF.b .nil bC (aq (pv 1) (aq (pv 0) ag))))
  (aA (bE (j8 MC GI r2 (by rfl) T.m bI .nil bC (aq (pv 0) (aq (pv 2) (aq (Hq h5 (by rfl) BS (aq (aI em r1 (by rfl) gM.m gM.F.kp gM.b .nil bC (aq (pv 1) ag)) ag) oa) ag)))))),?_⟩
 obtain⟨ej,ml,fs,hm,gq,xs,ft,gt⟩:=id hM;have ei:xs.length=Ms.length:=aZ gt;have big:=d9;refine bU (cO ?_);refine E4 (K:=K) (ms:=xs) rfl hm TM.clM TM.nM gq ft (by omega) (fun i ys G=>∃g:List aa,ys=g.map V.ref/\bh H G/\aK (StA CS (Hid {[],H} G)) g ((Ms.take i).map st0)) {[],rfl,bh.refl _,by rw[jV];exact .nil} ?_ ?_ ?_
 ·rintro i ys G hi ⟨g,rfl,Z,p1⟩;have:=aZ p1;rw[au,dH]at this;rw[au];omega
 ·rintro i ys G hi ⟨g,rfl,Z,p1⟩;obtain⟨Mi,fo⟩:∃M,Ms[i]?=some M:={_,aH (by omega)};obtain⟨x,hx,mo⟩:=jx gt fo;obtain⟨t,bl,ql,n0,x3,x4,vb,rfl,g1,g2,g3,g4⟩:=mo.fs;refine{rfl,?_};unfold xJ;refine gG ?_;have lb:Mi.ps.length<=100:=by
   have e:=congrArg jD mo.kb;rw[au]at e;have:=mo.lb;omega
  have lq:Mi.qs.length<=100:=by
   have:=mo.lq;omega
  refine{_,rfl,_,rfl,m,ej,ml,t,bl,ql,fs,n0,x3,x4,i,xs,vb,Mi.ps,Mi.qs,by rw[Int.zero_add];rfl,Z _ _ hm,gq,Z _ _ ft,hx,Z _ _ g1,Z _ _ g2,g3.same Z,lb,Z _ _ g4,lq,fun st dx bd qd ls G' N=>?_};refine{g++[st],by rw[cw];rfl,Z.trans N.same,?_};rw[gs,fo,cw];exact eR (Paired.mono (fun _ _ z=>jS.same' (gv N.same) z) p1) ((N.hid Z).sta (by rw[mo.kb];exact mo.nb) mo.nq)
 rintro ys G ⟨g,rfl,Z,p1⟩;rw[ei,fg]at p1;intro sl gw;have Y:=aE gw (.lst (g.map V.ref));refine bK ?_;dsimp only;refine eW (uI ?_);have ef:=none_of Z gw;refine{_,rfl,_,rfl,_,rfl,fy,fx,es,rfl,Y _ _ (Z _ _ ez),Paired.mono (fun _ _ z=>(z.same Z).same Y) ey,by omega,fun G1 l0 ys W ec eF ly hy=>?_};have ew:aK (ib G1) ys (pH es):=nZ (by rw[oQ];exact ly) fun i y e eo he=>by
  obtain⟨e',h',rfl⟩:=rD he;exact hy i y e' eo h'
 obtain⟨z1,z2,z3⟩:=xi ew;refine{l0,(ys.zip (pH es)).map fun u=>(u.1,u.2.key),rfl,?_,fun z hz=>?_,?_,?_,fun pl fa hg pm fz=>?_}
 ·rw[dA];have:((fun x:V×List Int=>x.1) ∘ fun u:V×Ev=>(u.1,u.2.key))=(fun u:V×Ev=>u.1):=rfl;rw[this,z1];exact eF
 ·obtain⟨u,hu,rfl⟩:=cD.mp hz;exact B7 (z3 u hu)
 ·rw[dA];have:((fun x:V×List Int=>x.2) ∘ fun u:V×Ev=>(u.1,u.2.key))=Ev.key ∘ (fun u:V×Ev=>u.2):=rfl;rw[this,<- dA,z2];exact jW.mpr (DH es)
 ·rw[au,qK,oQ];omega
 obtain⟨ps,eh,el⟩:=yu (F:=G1) (us:=ys.zip (pH es)) (es:=l8 (pH es) []) (zs:=fa) z3 pm fz (by
  rw[z2];have:=eI (pH es) [];rw[cL]at this;exact this.symm) (DI gr).fall
 rw[eh];have J:=aE hg (.lst ps);have hf:=W _ _ (aj:upd G sl (.lst (g.map V.ref)) sl=_);have et:sl≠pl:=aw hf hg;intro co ge U eH ed;have O:=J _ _ hf;have I:upd G1 pl (.lst ps) pl=some (.lst ps):=aj;have eL:sl≠co:=aw O U;have fe:pl≠co:=aw I U;have sA:bh H (upd G1 pl (.lst ps)):=(Z.trans (Y.trans W)).trans J;refine{co,ge,_,_,_,rfl,aj,fun G' gl but=>{rfl,?_}};have sB:bh (upd G1 pl (.lst ps)) G':=fun a o e=>but _ _ (aW (aW e (aw e eH)) (aw e U)) (aw e U);have fk:H co=none:=none_of sA U;have er:H pl=none:=none_of (Z.trans (Y.trans W)) hg;have fG:∀a∈[co,sl,pl],G a=none:=fun a ha=>by
  simp only[ar,aV,or_false]at ha
  rcases ha with rfl|rfl|rfl
  ·exact none_of ((Y.trans W).trans J) U
  ·exact gw
  ·exact none_of (Y.trans W) hg
 have sG:bh (Hid {[],H} G) (Hid {[co,sl,pl],H} G'):=xl (((Y.trans W).trans J).trans sB) fG;have gd:∀a∈({[co,sl,pl],H}:Ex),∃o,G' a=some o/\∀xs,o≠.tup xs:=fun a ha=>by
  rcases ha with ha|⟨o,e,n⟩
  case inr=>exact{o,(sA.trans sB) _ _ e,n}
  have ha:a∈[co,sl,pl]:=ha;simp only[ar,aV,or_false]at ha
  rcases ha with rfl|rfl|rfl
  ·exact{_,gl,fun xs z=>by cases z}
  ·exact{_,sB _ _ O,fun xs z=>by cases z}
  ·exact{_,sB _ _ I,fun xs z=>by cases z}
 refine k G' co sl pl {DI gr,fun b o e=>{aw e fk,aw e ef,aw e er,(sA.trans sB) _ _ e},.inl (by simp),.inl (by simp),.inl (by simp),eL.symm,fe.symm,et,{ge,_,_,gl,rfl,rfl},{g,sB _ _ O,Paired.mono (fun _ _ z=>jS.same' sG z) p1},{ps,sB _ _ I,Paired.mono (fun _ _ z=>ib.hid gd (z.same (J.trans sB))) el},fun i M s hi hs=>?_,gd};have hs:(Ms.map st0)[i]?=some s:=hs;rw[cQ,hi]at hs
 cases hs;obtain⟨x,_,mo⟩:=jx gt hi;exact mo.wk0
structure Os(CB CS:aa)(G:Hp)(b:aa)(q:RS×List Rec)(e:End):Prop where
 ex:∃(dx rl sl:aa) (en:V) (rvs:List V) (ss:List aa),G b=some (.ins CB dx (Ih (.ref rl) en (.ref sl)))/\G rl=some (.lst rvs)/\aK (RcIn G) rvs q.2/\lA G en e/\G sl=some (.lst (ss.map V.ref))/\aK (StA CS G) ss q.1.sts
inductive IC(CM CS CB:aa)(vs:List V)(H:Hp)(Q:VK)(_e:XK):Prop where
 |mk(Ms:List MD)(m sgl:aa)(svs:List V)(es:List Ev)(most:Int)(_:vs=[.ref m,.ref sgl,.int most])(_:vB CM Ms H m)(_:Ms.length<1000)(_:H sgl=some (.lst svs))(_:aK (mI H) svs es)(_:es.length<64)(_:(∀e∈es,qR Ms.length e))(_:most<=1000)(_:∀(G:Hp) (b:aa) (i:Nat) (e:End),bh H G->jd Ms (cS Ms es) most i e->Os CB CS (Hid ⟨[],H⟩ G) b (itR Ms (cS Ms es) i) e->Q (.ref b) G):IC CM CS CB vs H Q _e
def ID(CM CS CB:aa):Sp:=fun vs H Q Z=>IC CM CS CB vs H Q Z
theorem Ot:bN ["model","signs","most","course","told"] ["model","signs","most"] (aL tI):={}
theorem IE(D:Df K mg "plain" tI ["model","signs","most"] f fd)(DA:Df K mg "course_at_first" fv ["model","signs"] fA fdA)(GA:bL P w K mg base CX0 4 fA fdA ["model","signs"] (DJ CC CM CS))(DR:Df K mg "run_on" lT ["course","most"] fR fdR)(GR:bL P w K mg base CX0 39 fR fdR ["course","most"] (AL CC CM CS))
  (MB:Mk K CB fBk) (bB:Binds K fdBk ["self","records","ending","states"] []) (GB:bL P w K mg base CX0 1 fBk fdBk ["self","records","ending","states"] (Oe CB)) (TB:BkT K mg CB) (T:CoT K mg CC) :
  bL P w K mg base CX0 40 f fd ["model","signs","most"] (ID CM CS CB):=by
 refine D.F.ok Ot (fun vs H Q E h=>?_) (fun cp A outer s H vs Q E hr h=>?_)
 ·obtain⟨Ms,m,I,U,es,Y,rfl,_⟩:=h;rfl
 obtain⟨Ms,m,I,U,es,Y,rfl,hM,O,cx,cr,di,dj,V,k⟩:=h;have r2:cZ 2 _:=hr.mono (by decide);have r4:cZ 4 _:=hr.mono (by decide);refine⟨_,ah (bJ (i:=3) Ot.nd rfl (Or.inl rfl) (aI GA r4 (by rfl) DA.m DA.F.kp DA.b .nil bC (aq (pv 0) (aq (pv 1) ag))))
  (ah (bJ (i:=4) Ot.nd rfl (Or.inl rfl) (aI GR hr (by rfl) DR.m DR.F.kp DR.b .nil bC (aq (pv 3) (aq (pv 2) ag))))
  (aA (bE (j8 MB GB r2 (by rfl) TB.m bB .nil bC (aq (bY cA (pv 4) av (fun _ _=>rfl)) (aq (bY cA (pv 4) av (fun _ _=>rfl)) (aq (cV (pv 3) rfl) ag))))))),?_⟩
 refine bU (cO ?_);refine{_,rfl,_,rfl,Ms,m,I,U,es,rfl,hM,O,cx,cr,di,dj,fun G co sl pl c=>?_};refine bK ?_;dsimp only;refine bU (cO ?_);refine{_,rfl,_,rfl,Ms,H,{[co,sl,pl],H},co,m,sl,pl,_,Y,rfl,hM,c,V,?_,fun G2 t i e R=>?_}
 ·show (l8 (pH es) []).length<=1000000;rw[(eI _ _).length_eq,cL,oQ];omega
 refine bK ?_;dsimp only;obtain⟨rl,en,de,h1,h2,_,h3,h4⟩:=R.rs;obtain⟨dx,rv,sv,h5,_⟩:=R.cc.hc;obtain⟨ss,h6,h7⟩:=R.cc.hs;have hl:bh (Hid {[co,sl,pl],H} G2) G2:=cW;have g:bh H G2:=fun a o e=>(R.cc.sm a o e).2.2.2;have da:H sl=none:=by
  cases z:H sl with
  |none=>rfl
  |some o=>exact absurd rfl (R.cc.sm _ _ z).2.1
 refine eW (uI ?_);refine{_,rfl,t,_,_,_,rfl,rfl,SqT.of (hl _ _ h1),rfl,_,rfl,t,_,_,_,rfl,rfl,SqT.of (hl _ _ h1),rfl,_,rfl,co,CC,dx,_,_,rfl,h5,T.cl,T.nS,Iq _ _ _ _ _,fun b J hb dc nb=>{b,J,_,_,_,rfl,aj,fun G' cv but=>{rfl,?_}}};have W:bh G2 G':=fun a o e=>but _ _ (aW (aW e (aw e dc)) (aw e hb)) (aw e hb);have Z:bh (Hid {[co,sl,pl],H} G2) (Hid {[],H} G'):=IA W;exact k G' b i e (g.trans W) R.st {J,rl,sl,en,de,ss,by rw[eg (iT (none_of g hb))];exact cv,Z _ _ h2,Paired.mono (fun _ _ z=>z.same Z) h3,h4.same Z,by rw[eg (iT da)];exact W _ _ h6,Paired.mono (fun _ _ z=>jS.same' Z z) h7}
end
section
variable{P:aM}{w:bO}{K:af}{mg:Str->Option ae}{base:cC}{f fM fD:aa}{fd fdM fdD:bX}
def DK:Sp:=fun vs H Q _=>∃c k:Int,vs=[.int c,.int k]/\ff c<=1048576/\∀r:Int,Q (.int r) H
theorem Fb(x:Int):-(2^64)<x%2147483629/\x%2147483629<2^64:=by
 have h1:=lY x (show (2147483629:Int)≠0 by decide);have h2:=jJ x (show (0:Int)<2147483629 by decide);omega
theorem scM:bN ["_law_cell","_law_k","_law_number"] ["_law_cell","_law_k"] (aL mX):={}
theorem IF(D:Df K mg "_law_mixed" mX ["_law_cell","_law_k"] f fd):bL P w K mg base CX0 1 f fd ["_law_cell","_law_k"] DK:=by
 refine D.F.ok scM (fun vs H Q E h=>?_) (fun Z A outer s H vs Q E hr h=>?_)
 ·obtain⟨c,k,rfl,_⟩:=h;rfl
 obtain⟨c,k,rfl,hc,q⟩:=h;refine⟨_,ah (bJ (i:=2) scM.nd rfl (Or.inl rfl) (cR sj (cR r9 (cR gK (cR gK (cR gK (cR JV (pv 0) (pv 0)) (cR r9 av (pv 0))) (cR r9 av (pv 1))) av) av) av))
  (aA (bE (cR sj (cR gK (cR r9 (pv 2) (pv 2)) av) av))),?_⟩
 refine{_,rfl,_,rfl,_,_,rfl,rfl,.of_bits hc hc,_,rfl,_,_,rfl,rfl,.inl {by decide,by decide},_,_,rfl,rfl,_,rfl,_,_,rfl,rfl,.inl {by decide,by decide},_,_,rfl,rfl,_,_,rfl,rfl,_,_,rfl,rfl,.inr {by decide,by decide},_,_,rfl,rfl,(by show (0:Int)<2147483629;decide),?_};refine{_,rfl,_,rfl,_,_,rfl,rfl,.inl (Fb _),_,_,rfl,rfl,_,_,rfl,rfl,(by show (0:Int)<2147483587;decide),?_};exact q _
def dE(H:Hp)(p:aa):Prop:=∃x y:Int,H p=some (.lst [.int x,.int y])
theorem dE.same{H H':Hp}{p:aa}(a:dE H p)(b:bh H H'):dE H' p:=by
 obtain⟨x,y,e⟩:=a;exact{x,y,b _ _ e}
inductive DQ(vs:List V)(H:Hp)(Q:VK)(_e:XK):Prop where
 |mk(p:aa)(n:Int)(_:vs=[.ref p,.int n])(_:dE H p)(_:0<n)(_:n<2^64)(_:∀(r:Int) (H':Hp),0<=r->r<n->dE H' p->But p H H'->Q (.int r) H'):DQ vs H Q _e
def jL:Sp:=fun vs H Q Z=>DQ vs H Q Z
theorem scD:bN ["_law_purse_here","_law_out_of","_law_drawn"] ["_law_purse_here","_law_out_of"] (aL eC):={}
theorem jM(D:Df K mg "_law_draw" eC ["_law_purse_here","_law_out_of"] f fd):bL P w K mg base CX0 1 f fd ["_law_purse_here","_law_out_of"] jL:=by
 refine D.F.ok scD (fun vs H Q E h=>?_) (fun V A outer s H vs Q E hr h=>?_)
 ·obtain⟨p,n,rfl,_⟩:=h;rfl
 obtain⟨p,n,rfl,⟨x,y,hp⟩,Y,W,q⟩:=h;refine⟨_,ah (cH (bQ fc (bY dO (pv 0) av (fun _ _=>rfl)) av (cq _)) (aA (ug (bY dO (pv 0) av (fun _ _=>rfl)) (yM (pv 0) av tw))) bP)
  (ah (bJ (i:=2) scD.nd rfl (Or.inl rfl) (cR sj (bY dO (pv 0) av (fun _ _=>rfl)) (pv 1)))
  (ah (ug (cR wO (bY dO (pv 0) av (fun _ _=>rfl)) (pv 1)) (yM (pv 0) av tw))
  (aA (bE (pv 2))))),?_⟩
 refine{_,rfl,p,_,_,_,rfl,rfl,SqL.of hp,rfl,rfl,_,rfl,?_};refine gC (fun c=>?_) (fun c=>?_)
 ·refine{_,rfl,p,_,_,_,rfl,rfl,SqL.of hp,rfl,_,rfl,p,_,_,_,rfl,rfl,hp,rfl,?_};have Z:upd H p (.lst [.int y,.int y]) p=some (.lst [.int y,.int y]):=aj;refine{_,rfl,p,_,_,_,rfl,rfl,SqL.of Z,rfl,_,rfl,_,_,rfl,rfl,Y,?_};refine{_,rfl,p,_,_,_,rfl,rfl,SqL.of Z,rfl,_,rfl,_,_,rfl,rfl,⟨Y,W⟩,_,rfl,p,_,_,_,rfl,rfl,Z,rfl,?_};refine{_,rfl,?_};exact q _ _ (lY _ (by omega)) (jJ _ Y) {_,_,aj} ((But.upd p H _).trans (But.upd p _ _))
 ·refine{_,rfl,p,_,_,_,rfl,rfl,SqL.of hp,rfl,_,rfl,_,_,rfl,rfl,Y,?_};refine{_,rfl,p,_,_,_,rfl,rfl,SqL.of hp,rfl,_,rfl,_,_,rfl,rfl,⟨Y,W⟩,_,rfl,p,_,_,_,rfl,rfl,hp,rfl,?_};refine{_,rfl,?_};exact q _ _ (lY _ (by omega)) (jJ _ Y) {_,_,aj} (But.upd p H _)
inductive AM(K:af)(vs:List V)(H:Hp)(Q:VK)(_e:XK):Prop where
 |mk(a:aa)(ns:List Int)(_:vs=[.ref a])(_:SqL K H a (ns.map V.int))(_:ns.length<=63)(_:(∀x∈ns,ff x<=1048576))(_:∀(p:aa) (H':Hp),H p=none->dE H' p->bh H H'->Q (.ref p) H'):AM K vs H Q _e
def DV(K:af):Sp:=fun vs H Q Z=>AM K vs H Q Z
theorem scP:bN ["_law_script","_law_cells","_law_number","_law_k"] ["_law_script"] (aL mY):={}
theorem KJ{xs:List V}{lo hi:Option Int}{v:V}(h:v∈nF xs lo hi):v∈xs:=by
 unfold nF at h;exact List.mem_of_mem_drop (Dy h)
theorem Ou{xs:List V}(h:xs≠[])(z:Int):∃v,atI xs (z%(xs.length:Int))=some v/\v∈xs:=by
 have hl:0<xs.length:=Fc.mpr h;have h0:=lY z (show (xs.length:Int)≠0 by omega);have h1:=jJ z (show (0:Int)<(xs.length:Int) by omega);obtain⟨j,Y⟩:∃j:Nat,z%(xs.length:Int)=(j:Int):={(z%(xs.length:Int)).toNat,by omega};rw[Y]at h1 |-;have Z:j<xs.length:=by omega
 exact{xs[j],je (aH Z),vS Z}
theorem IG(D:Df K mg "_law_purse" mY ["_law_script"] f fd)(DM:Df K mg "_law_mixed" mX ["_law_cell","_law_k"] fM fdM)(B:Bl mg):bL P w K mg base CX0 2 f fd ["_law_script"] (DV K):=by
 have GM:bL P w K mg base CX0 1 fM fdM ["_law_cell","_law_k"] DK:=IF DM;refine D.F.ok scP (fun vs H Q E h=>?_) (fun bi A outer s H vs Q E hr h=>?_)
 ·obtain⟨a,ns,rfl,_⟩:=h;rfl
 obtain⟨a,ns,rfl,hS,g,U,q⟩:=h;refine⟨_,ah (bJ (i:=1) scP.nd rfl (Or.inl rfl) (cR By (om tD (pv 0) rg (rh av)) (eU (aq av ag))))
  (ah (bJ (i:=2) scP.nd rfl (Or.inl rfl) av)
  (ah (jX dC rfl (jr rfl B.range (aq av ag)) (eA (i:=3) scP.nd rfl (Or.inl rfl))
   (aA (bJ (i:=2) scP.nd rfl (Or.inl rfl) (cR gK (cR r9 (pv 2) av) (aI GM hr rfl DM.m DM.F.kp DM.b .nil bC (aq (bY dO (pv 1) (cR sj (pv 3) (cb ig (by rfl) B.len cu (aq (pv 1) ag))) (fun _ _=>rfl)) (aq (pv 3) ag)))))))
  (ah (cH (bQ fc (cR sj (bY dO (pv 1) av (fun _ _=>rfl)) av) av (cq _))
   (aA (bE (eU (aq (cb (um rfl) (by rfl) B.max boot_max (aq (cR wO (bY dO (pv 1) av (fun _ _=>rfl)) av) (aq (cR jk (Ck yP av) (cR wO (bY dO (pv 1) av (fun _ _=>rfl)) av)) ag))) (aq (pv 2) ag))))) bP)
  (aA (bE (eU (aq (pv 2) (aq (pv 2) ag)))))))),?_⟩
 -- Z = script[:63] + [0]
 refine{_,rfl,_,rfl,a,_,rfl,hS,fun l hl=>{(by show 1<=aB;decide),fun m hm=>?_}};have bt:l≠m:=aw (aj:upd H l (.lst (nF (ns.map V.int) none (some 63))) l=_) hm;have cl:(nF (ns.map V.int) none (some 63)).length<=63:=dB (qm _ _ _) (by rw[au];exact g);have bn:(nF (ns.map V.int) none (some 63)).length+[V.int 0].length<=aB:=by
  have z:64<=aB:=by decide
  rw[Bx];omega
 refine{l,m,_,_,rfl,rfl,(by rw[aN bt];exact aj),aj,bn,fun c hc=>?_};generalize hcs:nF (ns.map V.int) none (some 63)++[V.int 0]=cs at hc |-;have sc:bh H (upd (upd (upd H l (.lst (nF (ns.map V.int) none (some 63)))) m (.lst [.int 0])) c (.lst cs)):=(aE hl _).trans ((aE hm _).trans (aE hc _));generalize hH:upd (upd (upd H l (.lst (nF (ns.map V.int) none (some 63)))) m (.lst [.int 0])) c (.lst cs)=H1 at sc |-;have W:H1 c=some (.lst cs):=by rw[<- hH];exact aj
 have Y:cs≠[]:=by rw[<- hcs];simp
 have Z:∀v∈cs,∃z:Int,v=.int z/\ff z<=1048576:=fun v hv=>by
  rw[<- hcs]at hv
  rcases bZ.mp hv with z|z
  ·obtain⟨n,hn,rfl⟩:=cD.mp (KJ z);exact{n,rfl,U n hn}
  ·rw[aD.mp z];exact{0,rfl,by decide}
 -- number = 1; for k in range(150)
 refine{150,rfl,by decide,by decide,qZ (n:=150) (fun i σ H2=>∃(z:Int) (v:Option V),σ=[some (.ref a),some (.ref c),some (.int z),v]/\H2=H1) {1,none,rfl,rfl} ?_ ?_}
 ·rintro i σ H2 hi ⟨z,v,rfl,rfl⟩;obtain⟨u,hu,bv⟩:=Ou Y (0+(i:Int));obtain⟨y,rfl,hy⟩:=Z u bv;have J:(0:Int)<(cs.length:Int):=by
   have:=Fc.mpr Y;omega
  refine{_,rfl,_,_,rfl,rfl,.inr {by decide,by decide},_,rfl,_,rfl,_,rfl,c,_,rfl,.inl (SqL.of W),_,_,rfl,rfl,J,c,_,_,_,rfl,rfl,SqL.of W,hu,_,rfl,y,_,rfl,hy,fun r=>?_};exact{_,_,rfl,rfl,_,_,rfl,rfl}
 ·rintro σ H2 ⟨z,v,rfl,rfl⟩;obtain⟨I,O⟩:∃I,cs[0]?=some I:=by
   cases cs with
   |nil=>exact absurd rfl Y
   |cons I r=>exact⟨I,rfl⟩
  obtain⟨y,rfl,hy⟩:=Z I (cB O);have a0:atI cs 0=some (.int y):=je (j:=0) O;refine{_,rfl,c,_,_,_,rfl,rfl,SqL.of W,a0,_,_,rfl,rfl,(by show (0:Int)<2;decide),rfl,_,rfl,?_};have two:Lx y 2:={by decide,by decide};refine gC (fun _=>?_) (fun _=>?_)
  ·refine{_,rfl,c,_,_,_,rfl,rfl,SqL.of W,a0,_,_,rfl,rfl,two,_,rfl,_,rfl,c,_,_,_,rfl,rfl,SqL.of W,a0,_,_,rfl,rfl,two,_,_,rfl,rfl,_,_,rfl,_,rfl,lt2,fun p hp=>?_};exact q p _ (sc.free hp) {_,_,aj} (sc.trans (aE hp _))
  ·refine{_,rfl,_,rfl,lt2,fun p hp=>?_};exact q p _ (sc.free hp) {_,_,aj} (sc.trans (aE hp _))
end
section
variable{X:Cx}{es:List cU}{te:TE}{t:TA}
theorem AN{Z:List cU}{k:Nat}{p:Pos}{env:Env}:cK (.Tuple Z k p::es) env=(false,gf (.Tuple Z k p) env)::cK es env:=by rfl
theorem uL{Z:List cU}{k:Nat}{p:Pos}(ha:PE X (.Tuple Z k p) te)(hr:PA X es t):PA X (.Tuple Z k p::es) (pQ te t):=aq ha hr (by rfl)
theorem Ov{Z:List cU}{p:Pos}(ha:PE X (.List Z p) te)(hr:PA X es t):PA X (.List Z p::es) (pQ te t):=aq ha hr (by rfl)
theorem dS{c:Const}{k:Nat}{p:Pos}(ha:PE X (.Constant c k p) te)(hr:PA X es t):PA X (.Constant c k p::es) (pQ te t):=aq ha hr (by rfl)
theorem aR{x:Str}{p:Pos}(ha:PE X (.Name x p) te)(hr:PA X es t):PA X (.Name x p::es) (pQ te t):=aq ha hr (by rfl)
theorem iz{g:cU}{Z:List cU}{ks:List OW}{p:Pos}(ha:PE X (.Call g Z ks p) te)(hr:PA X es t):PA X (.Call g Z ks p::es) (pQ te t):=aq ha hr (by rfl)
theorem pI{a b:cU}{p:Pos}(ha:PE X (.Subscript a b p) te)(hr:PA X es t):PA X (.Subscript a b p::es) (pQ te t):=aq ha hr (by rfl)
theorem oR{a b:cU}{o:Jy}{p:Pos}(ha:PE X (.BinOp a o b p) te)(hr:PA X es t):PA X (.BinOp a o b p::es) (pQ te t):=aq ha hr (by rfl)
end
theorem fh{t:L2.TT}{a b:TS}{D:nv}{σ:St}{H:Hp}(h:t σ H fun c H1=>if c=true then a D σ H1 else b D σ H1):Jw t a b D σ H:=h
theorem eO.ref{bs qs:List Str}{H:Hp}{d:Dd}{v:V}(h:eO bs qs H d v):∃t,v=.ref t:=by
 cases d<;>simp only[eO]at h
 ·obtain⟨t,_,e,_⟩:=h;exact⟨t,e⟩
 ·obtain⟨t,_,e,_⟩:=h;exact⟨t,e⟩
 ·obtain⟨t,_,e,_⟩:=h;exact⟨t,e⟩
 ·obtain⟨t,_,e,_⟩:=h;exact⟨t,e⟩
 ·obtain⟨t,_,_,_,e,_⟩:=h;exact⟨t,e⟩
 ·obtain⟨t,_,_,_,e,_⟩:=h;exact⟨t,e⟩
 ·obtain⟨t,e,_⟩:=h;exact⟨t,e⟩
theorem Tree.scal{H:Hp}{v:V}(h:BU v):∀n,Tree H n v
 |0=>h
 |_+1=>.inl h
theorem Tree.atup{H:Hp}{a:aa}{xs:List V}{n:Nat}(h:H a=some (.tup xs))(l:xs.length<1000)(k:∀x∈xs,Tree H n x):Tree H (n+1) (.ref a):=.inr {a,xs,rfl,.inr h,l,k}
theorem Tree.alst{H:Hp}{a:aa}{xs:List V}{n:Nat}(h:H a=some (.lst xs))(l:xs.length<1000)(k:∀x∈xs,Tree H n x):Tree H (n+1) (.ref a):=.inr {a,xs,rfl,.inl h,l,k}
theorem jz.tree{bs qs:List Str}{H:Hp}{v:V}{f:Fm}(h:jz bs qs H v f):∀n,f.depth<=n->Tree H n v:=by
 induction h with
 |num h1 _=>exact fun n Z=>match n,Z with
  |n+1,_=>Tree.atup h1 (by show 2<1000;decide) fun x hx=>by
   simp only[ar,aV,or_false]at hx
   rcases hx with rfl|rfl<;>exact Tree.scal (by exact trivial) _
  |0,Z=>absurd Z (by unfold Fm.depth;decide)
 |box h1 _=>exact fun n Z=>match n,Z with
  |n+1,_=>Tree.atup h1 (by show 2<1000;decide) fun x hx=>by
   simp only[ar,aV,or_false]at hx
   rcases hx with rfl|rfl<;>exact Tree.scal (by exact trivial) _
  |0,Z=>absurd Z (by unfold Fm.depth;decide)
 |long h1 _=>exact fun n Z=>match n,Z with
  |n+1,_=>Tree.atup h1 (by show 2<1000;decide) fun x hx=>by
   simp only[ar,aV,or_false]at hx
   rcases hx with rfl|rfl<;>exact Tree.scal (by exact trivial) _
  |0,Z=>absurd Z (by unfold Fm.depth;decide)
 |got h1=>exact fun n Z=>match n,Z with
  |n+1,_=>Tree.atup h1 (by show 2<1000;decide) fun x hx=>by
   simp only[ar,aV,or_false]at hx
   rcases hx with rfl|rfl<;>exact Tree.scal (by exact trivial) _
  |0,Z=>absurd Z (by unfold Fm.depth;decide)
 |now h1=>exact fun n Z=>match n,Z with
  |n+1,_=>Tree.atup h1 (by show 1<1000;decide) fun x hx=>by
   simp only[ar,aV,or_false]at hx
   rcases hx with rfl
   exact Tree.scal (by exact trivial) _
  |0,Z=>absurd Z (by unfold Fm.depth;decide)
 |two h1 _ _ _ W Y=>exact fun n Z=>match n,Z with
  |n+1,Z=>Tree.atup h1 (by show 3<1000;decide) fun x hx=>by
   unfold Fm.depth at Z;simp only[ar,aV,or_false]at hx
   rcases hx with rfl|rfl|rfl
   ·exact Tree.scal (by exact trivial) _
   ·exact W n (by omega)
   ·exact Y n (by omega)
  |0,Z=>absurd Z (by unfold Fm.depth;omega)
mutual
theorem eO.tree{bs qs:List Str}{H:Hp}:∀(d:Dd) (v:V) (n:Nat),eO bs qs H d v->2*d.deep+16<=n->Tree H n v
 |_,_,0,_,Y=>absurd Y (by omega)
 |.put x f,v,n+1,h,Y=>by
  obtain⟨t,u,rfl,h1,h2,Z⟩:=(by simpa only[eO] using h);refine Tree.atup h1 (by show 3<1000;decide) fun y hy=>?_;simp only[ar,aV,or_false]at hy
  rcases hy with rfl|rfl|rfl
  ·exact Tree.scal (by exact trivial) _
  ·exact Tree.scal (by exact trivial) _
  ·exact Z.1.tree n (by have:=Z.2;omega)
 |.push q f,v,n+1,h,Y=>by
  obtain⟨t,u,rfl,h1,h2,Z⟩:=(by simpa only[eO] using h);refine Tree.atup h1 (by show 3<1000;decide) fun y hy=>?_;simp only[ar,aV,or_false]at hy
  rcases hy with rfl|rfl|rfl
  ·exact Tree.scal (by exact trivial) _
  ·exact Tree.scal (by exact trivial) _
  ·exact Z.1.tree n (by have:=Z.2;omega)
 |.pull q x o,v,n+1,h,Y=>by
  obtain⟨t,u,rfl,h1,h2,Z,l,vs,rfl,W,J,I⟩:=(by simpa only[eO] using h);unfold Dd.deep at Y;refine Tree.atup h1 (by show 4<1000;decide) fun y hy=>?_;simp only[ar,aV,or_false]at hy
  rcases hy with rfl|rfl|rfl|rfl
  ·exact Tree.scal (by exact trivial) _
  ·exact Tree.scal (by exact trivial) _
  ·exact Tree.scal (by exact trivial) _
  ·obtain⟨m,rfl⟩:∃m,n=m+1:={n-1,by omega};exact Tree.alst W J (fK.tree o vs m I (by omega))
 |.draw x f,v,n+1,h,Y=>by
  obtain⟨t,u,rfl,h1,h2,Z⟩:=(by simpa only[eO] using h);refine Tree.atup h1 (by show 3<1000;decide) fun y hy=>?_;simp only[ar,aV,or_false]at hy
  rcases hy with rfl|rfl|rfl
  ·exact Tree.scal (by exact trivial) _
  ·exact Tree.scal (by exact trivial) _
  ·exact Z.1.tree n (by have:=Z.2;omega)
 |.send to sg sp rk a b,v,n+1,h,Y=>by
  obtain⟨t,u,u1,u2,rfl,h1,h2,Z,W⟩:=(by simpa only[eO] using h);refine Tree.atup h1 (by show 7<1000;decide) fun y hy=>?_;simp only[ar,aV,or_false]at hy
  rcases hy with rfl|rfl|rfl|rfl|rfl|rfl|rfl
  ·exact Tree.scal (by exact trivial) _
  ·exact Tree.scal (by exact trivial) _
  ·exact Tree.scal (by exact trivial) _
  ·exact h2.1.tree n (by have:=h2.2;omega)
  ·exact Tree.scal (by exact trivial) _
  ·exact Z.1.tree n (by have:=Z.2;omega)
  ·exact W.1.tree n (by have:=W.2;omega)
 |.ife f x y,v,n+1,h,Y=>by
  obtain⟨t,u,u1,u2,rfl,h1,h2,⟨l,vs,rfl,g1,D,g⟩,l',U,rfl,k1,k2,k3⟩:=(by simpa only[eO] using h);unfold Dd.deep at Y;refine Tree.atup h1 (by show 4<1000;decide) fun z O=>?_;simp only[ar,aV,or_false]at O;obtain⟨m,rfl⟩:∃m,n=m+1:={n-1,by omega}
  rcases O with rfl|rfl|rfl|rfl
  ·exact Tree.scal (by exact trivial) _
  ·exact h2.1.tree _ (by have:=h2.2;omega)
  ·exact Tree.alst g1 D (fK.tree x vs m g (by omega))
  ·exact Tree.alst k1 k2 (fK.tree y U m k3 (by omega))
 |.fin,v,n+1,h,Y=>by
  obtain⟨t,rfl,h1⟩:=(by simpa only[eO] using h);refine Tree.atup h1 (by show 1<1000;decide) fun y hy=>?_;simp only[ar,aV,or_false]at hy;rw[hy];exact Tree.scal (by exact trivial) _
theorem fK.tree{bs qs:List Str}{H:Hp}:∀(d:Ds) (vs:List V) (n:Nat),fK bs qs H d vs->2*d.deep+16<=n->∀x∈vs,Tree H n x
 |.nil,vs,n,h,Z=>by
  have e:vs=[]:=by simpa only[fK] using h
  subst e;intro x hx
  cases hx
 |.cons d r,vs,n,h,Z=>by
  obtain⟨v,Y,rfl,h1,h2⟩:=(by simpa only[fK] using h);unfold Ds.deep at Z;intro x hx
  rcases ar.mp hx with rfl|hx
  ·exact eO.tree d _ n h1 (by omega)
  ·exact fK.tree r Y n h2 (by omega) x hx
end
def AO(o:HO):Prop:=(∃xs,o=.tup xs)\/∃xs,o=.lst xs/\∀(i:Int) (r:List V),xs≠.int i::r
def d8(H H':Hp):Prop:=∀a o,H a=some o->AO o->H' a=some o
theorem d8.same{H H':Hp}(s:bh H H'):d8 H H':=fun a o e _=>s _ _ e
theorem d8.trans{H H1 H2:Hp}(a:d8 H H1)(b:d8 H1 H2):d8 H H2:=fun c o e n=>b _ _ (a _ _ e n) n
def Kp(own:List aa)(H G:Hp):Prop:=∀b o,H b=some o->b∉own->G b=some o
theorem Kp.refl(own:List aa)(H:Hp):Kp own H H:=fun _ _ e _=>e
theorem Kp.trans{own:List aa}{H G G':Hp}(a:Kp own H G)(b:Kp own G G'):Kp own H G':=fun c o e n=>b c o (a c o e n) n
theorem Kp.same{own:List aa}{H G:Hp}(s:bh H G):Kp own H G:=fun c o e _=>s _ _ e
theorem Kp.but{own:List aa}{H G:Hp}{p:aa}(s:But p H G)(m:p∈own):Kp own H G:=fun c o e n=>s _ _ e fun z=>n (by rw[z];exact m)
theorem Kp.upd{own:List aa}{H:Hp}{a:aa}{o:HO}(m:a∈own):Kp own H (upd H a o):=fun c u e n=>by
 rw[aN fun z=>n (by rw[z];exact m)];exact e
theorem Kp.keepI{own:List aa}{H G:Hp}(k:Kp own H G)(h:∀a∈own,∃(i:Int) (r:List V),H a=some (.lst (.int i::r))):d8 H G:=fun a o e n=>k a o e fun m=>by
 obtain⟨i,r,q⟩:=h a m;rw[q]at e
 cases e
 rcases n with⟨xs,n⟩|⟨xs,n,y⟩
 ·cases n
 ·cases n;exact y i r rfl
theorem d8.but{H H':Hp}{p:aa}(pu:dE H p)(b:But p H H'):d8 H H':=Kp.keepI (own:=[p]) (Kp.but b aC) fun a m=>by
 obtain⟨x,y,h⟩:=pu;rw[aD.mp m];exact{x,_,h}
theorem n6(xs:List V):AO (.tup xs):=.inl ⟨xs,rfl⟩
theorem DX(Z:List Str):AO (.lst (Z.map V.str)):=.inr ⟨_,rfl,fun i r z=>by
 cases Z with
 |nil=>cases z
 |cons x xs=>cases z⟩
theorem FmI.keepI{bs qs:List Str}{H H':Hp}(k:d8 H H'){v:V}{f:Fm}(h:FmI bs qs H v f):FmI bs qs H' v f:={h.1.mono fun t xs e=>k _ _ e (n6 xs),h.2}
theorem fK.ni{bs qs:List Str}{H:Hp}{d:Ds}{vs:List V}(h:fK bs qs H d vs):AO (.lst vs):=.inr ⟨vs,rfl,fun i r z=>by
 subst z
 cases d with
 |nil=>
  simp only[fK]at h
  cases h
 |cons d r=>
  obtain⟨v,Z,e,h1,_⟩:=(by simpa only[fK] using h)
  cases e;obtain⟨t,e⟩:=h1.ref
  cases e⟩
def Tk(H H':Hp):Prop:=∀(t:aa) (xs:List V),H t=some (.tup xs)->H' t=some (.tup xs)
def Nk(H H' H2:Hp):Prop:=∀(l:aa) (xs:List V),H l=none->AO (.lst xs)->H' l=some (.lst xs)->H2 l=some (.lst xs)
def OwD(bs qs:List Str)(H H':Hp)(d:Dd)(v:V):Prop:=∀H2,Tk H' H2->Nk H H' H2->eO bs qs H2 d v
def OwS(bs qs:List Str)(H H':Hp)(d:Ds)(vs:List V):Prop:=∀H2,Tk H' H2->Nk H H' H2->fK bs qs H2 d vs
theorem Tk.refl(H:Hp):Tk H H:=fun _ _ e=>e
theorem Nk.refl(H H':Hp):Nk H H' H':=fun _ _ _ _ e=>e
theorem OwS.now{bs qs:List Str}{H H':Hp}{d:Ds}{v:List V}(h:OwS bs qs H H' d v):fK bs qs H' d v:=h H' (Tk.refl _) (Nk.refl _ _)
theorem d8.tk{H H':Hp}(k:d8 H H'):Tk H H':=fun t xs e=>k _ _ e (n6 xs)
theorem d8.nk{H H1 H' H2:Hp}(k:d8 H' H1)(n:Nk H H1 H2):Nk H H' H2:=fun l xs h i e=>n l xs h i (k _ _ e i)
theorem OwS.keepI{bs qs:List Str}{H H' H1:Hp}{d:Ds}{v:List V}(h:OwS bs qs H H' d v)(k:d8 H' H1):OwS bs qs H H1 d v:=fun H2 t n=>h H2 (fun a xs e=>t a xs (k.tk a xs e)) (k.nk n)
def Dm(H G:Hp):Prop:=∀a,G a=none->H a=none
theorem Dm.same{H G:Hp}(s:bh H G):Dm H G:=fun a n=>none_of s n
theorem Dm.trans{H G G':Hp}(a:Dm H G)(b:Dm G G'):Dm H G':=fun x n=>a x (b x n)
theorem OwD.base{bs qs:List Str}{H H0 H':Hp}{d:Dd}{v:V}(h:OwD bs qs H H' d v)(s:Dm H0 H):OwD bs qs H0 H' d v:=fun H2 t n=>h H2 t fun l xs hl i e=>n l xs (s l hl) i e
theorem OwS.base{bs qs:List Str}{H H0 H':Hp}{d:Ds}{v:List V}(h:OwS bs qs H H' d v)(s:Dm H0 H):OwS bs qs H0 H' d v:=fun H2 t n=>h H2 t fun l xs hl i e=>n l xs (s l hl) i e
theorem OwD.old{bs qs:List Str}{H H':Hp}{d:Dd}{v:V}{a:aa}{o:HO}(h:OwD bs qs H H' d v)(ol:H a≠none)(nt:∀xs,H' a≠some (.tup xs)):OwD bs qs H (upd H' a o) d v:=fun H2 t n=>h H2 (fun b xs e=>t b xs (by rw[aN (fun z=>nt xs (by rw[<- z];exact e))];exact e)) fun l xs hl i e=>n l xs hl i (by rw[aN (fun z=>ol (by rw[<- z];exact hl))];exact e)
theorem OwS.old{bs qs:List Str}{H H':Hp}{d:Ds}{v:List V}{a:aa}{o:HO}(h:OwS bs qs H H' d v)(ol:H a≠none)(nt:∀xs,H' a≠some (.tup xs)):OwS bs qs H (upd H' a o) d v:=fun H2 t n=>h H2 (fun b xs e=>t b xs (by rw[aN (fun z=>nt xs (by rw[<- z];exact e))];exact e)) fun l xs hl i e=>n l xs hl i (by rw[aN (fun z=>ol (by rw[<- z];exact hl))];exact e)
theorem FmI.tk{bs qs:List Str}{H H2:Hp}{v:V}{F:Fm}(h:FmI bs qs H v F)(t:Tk H H2):FmI bs qs H2 v F:={h.1.mono t,h.2}
section
variable{bs qs:List Str}{H H':Hp}{t:aa}{u u1 u2:V}{F F1 F2:Fm}{x q:Str}
theorem Ow(h:H' t=some (.tup [.str "put",.str x,u]))(m:x∈bs)(f:FmI bs qs H' u F):OwD bs qs H H' (.put x F) (.ref t):=fun H2 k _=>by simp only[eO];exact{t,u,rfl,k _ _ h,m,f.tk k}
theorem KL(h:H' t=some (.tup [.str "push",.str q,u]))(m:q∈qs)(f:FmI bs qs H' u F):OwD bs qs H H' (.push q F) (.ref t):=fun H2 k _=>by simp only[eO];exact{t,u,rfl,k _ _ h,m,f.tk k}
theorem KM(h:H' t=some (.tup [.str "draw",.str x,u]))(m:x∈bs)(f:FmI bs qs H' u F):OwD bs qs H H' (.draw x F) (.ref t):=fun H2 k _=>by simp only[eO];exact{t,u,rfl,k _ _ h,m,f.tk k}
theorem Ox(h:H' t=some (.tup [.str "end"])):OwD bs qs H H' .fin (.ref t):=fun H2 k _=>by simp only[eO];exact{t,rfl,k _ _ h}
theorem KN{to rk:Int}{sg:Str}(h:H' t=some (.tup [.str "send",.int to,.str sg,u,.int rk,u1,u2]))(f:FmI bs qs H' u F)(f1:FmI bs qs H' u1 F1)(Z:FmI bs qs H' u2 F2):OwD bs qs H H' (.send to sg F rk F1 F2) (.ref t):=fun H2 k _=>by simp only[eO];exact{t,u,u1,u2,rfl,k _ _ h,f.tk k,f1.tk k,Z.tk k}
theorem KO{l:aa}{xs:List V}{d:Ds}(h:H' t=some (.tup [.str "pull",.str q,.str x,.ref l]))(Y:q∈qs)(Z:x∈bs)(hl:H l=none)(e:H' l=some (.lst xs))(z:xs.length<1000)(D:OwS bs qs H H' d xs):OwD bs qs H H' (.pull q x d) (.ref t):=fun H2 k n=>by
 simp only[eO];exact{t,.ref l,rfl,k _ _ h,Y,Z,l,xs,rfl,n l xs hl D.now.ni e,z,D H2 k n}
theorem Oy{l Z:aa}{xs ys:List V}{d d':Ds}(h:H' t=some (.tup [.str "if",u,.ref l,.ref Z]))(f:FmI bs qs H' u F)(hl:H l=none)(e:H' l=some (.lst xs))(z:xs.length<1000)(D:OwS bs qs H H' d xs)(Y:H Z=none)(U:H' Z=some (.lst ys))(O:ys.length<1000)(W:OwS bs qs H H' d' ys):OwD bs qs H H' (.ife F d d') (.ref t):=fun H2 k n=>by
 simp only[eO];exact{t,u,.ref l,.ref Z,rfl,k _ _ h,f.tk k,{l,xs,rfl,n l xs hl D.now.ni e,z,D H2 k n},Z,ys,rfl,n Z ys Y W.now.ni U,O,W H2 k n}
theorem KP:OwS bs qs H H' .nil []:=fun _ _ _=>by simp only[fK]
end
def abc:Str:="abcdefghijklmnopqrstuvwxyz"
theorem DY:abc.cps.toList.length=26:=by decide +kernel
theorem yw:abc.length<=aB:=by decide +kernel
theorem Oz{z:Int}(h0:0<=z)(h1:z<26):∃c,atI abc.cps.toList z=some c:=by
 obtain⟨j,rfl⟩:∃j:Nat,z=(j:Int):={z.toNat,by omega};have l:j<abc.cps.toList.length:=by rw[DY];omega
 exact{abc.cps.toList[j],je (aH l)}
theorem AQ(x y:Str):(x++y).length=x.length+y.length:=by
 show (x++y).cps.size=x.cps.size+y.cps.size;show (x.cps++y.cps).size=_;rw[Array.size_append]
theorem uM{n:Nat}{U:TE}{g:TG}{tc:L2.TT}{te:TE}{σ:St}{H:Hp}{Q:VK}(P:Nat->Hp->Prop)(hi:∀R:VK,(∀(m:Nat) (H1:Hp),P m H1->R (.int m) H1)->U σ H R)(hb:∀m H1,P m H1->m<1000)(Y:Nat->Hp->Nat->List V->Hp->Prop)(h0:∀m H1,P m H1->Y m H1 0 [] H1)(hl:∀m H1,P m H1->∀i ys H,i<=m->Y m H1 i ys H->ys.length<aB)
  (hs:∀m H1,P m H1->∀i ys H,i<m->Y m H1 i ys H->g (.int (0+i)) (cI n none++σ) H fun Z H2=>Z.drop n=σ/\tc Z H2 fun b W=>if b=true then te Z W fun y O=>Y m H1 (i+1) (ys++[y]) O else Y m H1 (i+1) ys W)
  (hd:∀m H1,P m H1->∀ys H,Y m H1 m ys H->∀p,H p=none->Q (.ref p) (upd H p (.lst ys))):wN n (FG (pQ U Bm)) g tc te σ H Q:=
 hi _ fun m H1 p=>⟨(m:Int),rfl,by have:=hb m H1 p;omega,by have:=hb m H1 p;omega,by
  rw[vt];exact Hr (Y m H1) (h0 m H1 p) (hl m H1 p) (hs m H1 p) (hd m H1 p)⟩
theorem sQ{p:aa}{G:Hp}{a:aa}(h:dE G p)(n:G a=none):a≠p:=by
 obtain⟨x,y,e⟩:=h;exact (aw e n).symm
theorem uN{p:aa}{G:Hp}(h:dE G p){a:aa}{o:HO}(n:a≠p):dE (upd G a o) p:=by
 obtain⟨x,y,e⟩:=h;exact{x,y,by rw[aN n.symm];exact e}
theorem xn{K:af}{n:Nat}{U:TE}{g:TG}{tc:L2.TT}{te:TE}{σ:St}{H:Hp}{Q:VK}{a:aa}{xs:List V}(hi:∀R:VK,R (.ref a) H->U σ H R)(hx:SqL K H a xs)(Y:Nat->List V->Hp->Prop)(h0:Y 0 [] H)(hl:∀i ys H,i<=xs.length->Y i ys H->SqL K H a xs/\ys.length<aB)
  (hs:∀i x ys H,xs[i]?=some x->Y i ys H->g x (cI n none++σ) H fun Z H2=>Z.drop n=σ/\tc Z H2 fun b W=>if b=true then te Z W fun y O=>Y (i+1) (ys++[y]) O else Y (i+1) ys W)
  (hd:∀ys H,Y xs.length ys H->∀p,H p=none->Q (.ref p) (upd H p (.lst ys))):wN n (Lo K U) g tc te σ H Q:=
 hi _ {a,rfl,⟨xs,hx⟩,ye Y h0 hl hs hd}
section
variable{P:aM}{w:bO}{K:af}{mg:Str->Option ae}{base:cC}{f fD:aa}{fd fdD:bX}
seal PS PSs PE PA PT PW PI PG PGs PC
abbrev pD:List Str:=["_law_purse_here","_law_out_of"]
abbrev nW:List Str:=["_law_purse_here"]
abbrev pW:List Str:=["_law_purse_here"]
theorem scW:bN nW pW (aL gb):={}
def vV:Sp:=fun vs H Q _=>∃p:aa,vs=[.ref p]/\dE H p/\∀(r:Int) (H':Hp),-(10^15)<=r->r<=10^15->dE H' p->But p H H'->Q (.int r) H'
theorem xo(D:Df K mg "_law_worth" gb pW f fd)(Z:Df K mg "_law_draw" eC pD fD fdD)(B:Bl mg):bL P w K mg base CX0 2 f fd pW vV:=by
 have J:bL P w K mg base CX0 1 fD fdD pD jL:=jM Z;refine D.F.ok scW (fun vs H Q E h=>?_) (fun bi A outer s H vs Q E hr h=>?_)
 ·obtain⟨p,rfl,_⟩:=h;rfl
 obtain⟨p,rfl,pu,q⟩:=h;have r1:cZ 1 _:=hr;refine⟨_,ah (cH (bQ fc (aI J r1 (by rfl) Z.m Z.F.kp Z.b .nil bC (aR (pv 0) (dS av ag))) av (cq _)) (aA (bE (cR jk (aI J r1 (by rfl) Z.m Z.F.kp Z.b .nil bC (aR (pv 0) (oR (cR gK (cR r9 av (cR sy av av)) av) ag))) (cR sy av av)))) bP)
  (aA (bE (cR jk (aI J r1 (by rfl) Z.m Z.F.kp Z.b .nil bC (aR (pv 0) (dS av ag))) av))),?_⟩
 have U:Eu 10 15:={by decide,by decide,by decide};have W:(10:Int)^(15:Int).toNat=1000000000000000:=by decide
 have z:(10:Int)^15=1000000000000000:=by decide
 refine bU (fh {_,rfl,p,6,rfl,pu,by decide,by decide,fun r G r0 r6 V I=>?_});refine{rfl,_,rfl,gC (fun _=>?_) (fun _=>?_)}
 ·refine eW {_,rfl,_,_,rfl,rfl,U,_,_,rfl,rfl,.inl {by decide,by decide},_,_,rfl,rfl,p,_,rfl,V,by decide,by decide,fun x g x0 x1 Y O=>{_,_,rfl,rfl,U,_,_,rfl,rfl,q _ _ ?_ ?_ Y (I.trans O)}}
  ·rw[W];omega
  ·have x1:x<2*(10:Int)^(15:Int).toNat+1:=x1;rw[W]at x1;rw[W];omega
 ·dsimp only[jq];refine eW {_,rfl,p,13,rfl,V,by decide,by decide,fun x g x0 x1 Y O=>{_,_,rfl,rfl,q _ _ (by omega) (by omega) Y (I.trans O)}}
end
structure Lf(H:Hp)(p lf:aa):Prop where
 pu:dE H p
 hl:∃k:Int,H lf=some (.lst [.int k])
theorem Lf.int{H:Hp}{p Z:aa}(h:Lf H p Z):∀a∈[p,Z],∃(i:Int) (r:List V),H a=some (.lst (.int i::r)):=fun a m=>by
 obtain⟨x,y,e⟩:=h.pu;obtain⟨z,Y⟩:=h.hl
 rcases ar.mp m with rfl|m
 ·exact{x,_,e}
 ·rw[aD.mp m];exact{z,_,Y}
theorem Lf.ne{H:Hp}{p Z:aa}(h:Lf H p Z):Z≠p:=by
 obtain⟨x,y,e⟩:=h.pu;obtain⟨z,Y⟩:=h.hl;exact pO Y e (by intro q;cases q)
theorem Lf.but{H H':Hp}{p Z:aa}(h:Lf H p Z)(b:But p H H')(pu:dE H' p):Lf H' p Z:=by
 obtain⟨z,Y⟩:=h.hl;exact{pu,z,b _ _ Y h.ne}
theorem Lf.same{H H':Hp}{p Z:aa}(h:Lf H p Z)(s:bh H H'):Lf H' p Z:=by
 obtain⟨z,Y⟩:=h.hl;exact{h.pu.same s,z,s _ _ Y}
def qX:Ds->Dd->Ds
 |.nil,d=>.cons d .nil
 |.cons a r,d=>.cons a (qX r d)
theorem DZ{bs qs:List Str}{H:Hp}{d:Dd}{v:V}(hd:eO bs qs H d v):∀(ds:Ds) (xs:List V),fK bs qs H ds xs->fK bs qs H (qX ds d) (xs++[v])
 |.nil,xs,h=>by
  have e:xs=[]:=by simpa only[fK] using h
  subst e;unfold qX;simp only[fK];exact{v,[],rfl,hd,rfl}
 |.cons a r,xs,h=>by
  obtain⟨u,Z,rfl,h1,h2⟩:=(by simpa only[fK] using h);unfold qX;simp only[fK];exact{u,Z++[v],rfl,h1,DZ hd r Z h2}
theorem D0{m:Int}{d:Dd}(hd:d.toOk m):∀ds:Ds,ds.toOk m->(qX ds d).toOk m
 |.nil,_=>⟨hd,trivial⟩
 |.cons a r,h=>{h.1,D0 hd r h.2}
theorem yy(d:Dd):∀ds:Ds,(qX ds d).deep=max ds.deep d.deep
 |.nil=>by
  show max d.deep 0=max 0 d.deep;exact Nat.max_comm _ _
 |.cons a r=>by
  show max a.deep (qX r d).deep=max (max a.deep r.deep) d.deep;rw[yy d r];exact (Nat.max_assoc _ _ _).symm
theorem yz(d:Dd):∀ds:Ds,(qX ds d).size=ds.size+d.size
 |.nil=>by
  show d.size+0=0+d.size;omega
 |.cons a r=>by
  show a.size+(qX r d).size=a.size+r.size+d.size;rw[yz d r];omega
theorem IH{bs qs:List Str}{H H':Hp}{ds:Ds}{xs:List V}{d:Dd}{v:V}(a:OwS bs qs H H' ds xs)(b:OwD bs qs H H' d v):OwS bs qs H H' (qX ds d) (xs++[v]):=fun H2 k n=>DZ (b H2 k n) ds xs (a H2 k n)
theorem KQ:∀n,1<=ddz n
 |0=>ax _
 |n+1=>by
  show 1<=1+6*ddz n;omega
theorem Kp.dm{own:List aa}{H G:Hp}(k:Kp own H G)(h:∀a∈own,∃o,G a=some o):Dm H G:=fun a n=>by
 cases e:H a with
 |none=>rfl
 |some o=>
  by_cases m:a∈own
  ·obtain⟨u,q⟩:=h a m;rw[q]at n
   cases n
  ·rw[k a o e m]at n
   cases n
theorem Lf.there{H:Hp}{p Z:aa}(h:Lf H p Z):∀a∈[p,Z],∃o,H a=some o:=fun a m=>by
 obtain⟨i,r,e⟩:=h.int a m;exact{_,e}
def HsO(bs qs:List Str)(H H':Hp)(v:V)(q:Str×Ds):Prop:=∃t l xs,v=.ref t/\H' t=some (.tup [.str q.1,.ref l])/\H l=none/\H' l=some (.lst xs)/\xs.length<1000/\OwS bs qs H H' q.2 xs
theorem HsO.keepI{bs qs:List Str}{H H' H1:Hp}{v:V}{q:Str×Ds}(k:d8 H' H1)(h:HsO bs qs H H' v q):HsO bs qs H H1 v q:=by
 obtain⟨t,l,xs,e,h1,h2,Y,W,Z⟩:=h;exact{t,l,xs,e,k _ _ h1 (n6 _),h2,k _ _ Y Z.now.ni,W,Z.keepI k}
theorem HsO.old{bs qs:List Str}{H H':Hp}{v:V}{q:Str×Ds}{a:aa}{o:HO}(h:HsO bs qs H H' v q)(ol:H a≠none)(nt:∀xs,H' a≠some (.tup xs)):HsO bs qs H (upd H' a o) v q:=by
 obtain⟨t,l,xs,e,h1,h2,Y,W,Z⟩:=h;exact{t,l,xs,e,aW h1 (fun z=>nt _ (by rw[<- z];exact h1)),h2,aW Y (fun z=>ol (by rw[<- z];exact h2)),W,Z.old ol nt}
theorem HsO.base{bs qs:List Str}{H H0 H':Hp}{v:V}{q:Str×Ds}(h:HsO bs qs H H' v q)(s:Dm H0 H):HsO bs qs H0 H' v q:=by
 obtain⟨t,l,xs,e,h1,h2,Y,W,Z⟩:=h;exact{t,l,xs,e,h1,s l h2,Y,W,Z.base s}
structure Mch(m:Int)(H H':Hp)(t:aa)(nm:Str)(bs qs:List Str)(ds:List Int)(hs:List (Str×Ds))(ps:List (Str×Int)):Prop where
 ex:∃(bl ql dl hl:aa) (vb hv:List V),H' t=some (.tup [.str nm,.ref bl,.ref ql,.ref dl,.ref hl])/\H' bl=some (.lst vb)/\gU H' ps vb/\H' ql=some (.lst (qs.map V.str))/\H' dl=some (.lst (ds.map V.int))/\H' hl=some (.lst hv)/\aK (HsO bs qs H H') hv hs/\H bl=none/\H ql=none/\H dl=none/\H hl=none
 kb:ps.map (·.1)=bs
 nb:bs.Nodup
 nq:qs.Nodup
 lb:bs.length<=9
 lq:qs.length<=9
 ld:ds.length<=100
 lh:hs.length<=9
 wb:∀q∈ps,Wo q.2
 hk:∀q∈hs,q.2.toOk m/\q.2.deep<=4/\q.2.size<=3*ddz 4
def MIn(m:Int)(H H':Hp)(v:V)(M:MD):Prop:=∃t,v=.ref t/\Mch m H H' t M.nm M.bs M.qs M.ds M.hs M.ps
theorem Mch.but{m:Int}{H H' H1:Hp}{t p:aa}{nm:Str}{bs qs:List Str}{ds:List Int}{hs:List (Str×Ds)}{ps:List (Str×Int)}(Z:dE H p)(pu:dE H' p)(b:But p H' H1)(h:Mch m H H' t nm bs qs ds hs ps):Mch m H H1 t nm bs qs ds hs ps:=by
 have k:=d8.but pu b;have np:∀{a:aa},H a=none->a≠p:=fun {a} e z=>by
  obtain⟨x,y,q⟩:=Z;rw[z,q]at e
  cases e
 obtain⟨⟨bl,ql,dl,hl,I,hv,h1,h2,g,J,U,O,D,f1,Y,W,V⟩,kb,nb,nq,lb,lq,ld,lh,wb,hk⟩:=h;exact{{bl,ql,dl,hl,I,hv,k _ _ h1 (n6 _),b _ _ h2 (np f1),gU.tups (fun a xs e=>k _ _ e (n6 xs)) g,b _ _ J (np Y),b _ _ U (np W),b _ _ O (np V),Paired.mono (fun v q z=>HsO.keepI k z) D,f1,Y,W,V},kb,nb,nq,lb,lq,ld,lh,wb,hk}
theorem Mch.same{m:Int}{H H' H1:Hp}{t:aa}{nm:Str}{bs qs:List Str}{ds:List Int}{hs:List (Str×Ds)}{ps:List (Str×Int)}(b:bh H' H1)(h:Mch m H H' t nm bs qs ds hs ps):Mch m H H1 t nm bs qs ds hs ps:=by
 obtain⟨⟨bl,ql,dl,hl,O,hv,h1,h2,D,W,Z,Y,J,f1,V,U,I⟩,kb,nb,nq,lb,lq,ld,lh,wb,hk⟩:=h;exact{{bl,ql,dl,hl,O,hv,b _ _ h1,b _ _ h2,gU.same b D,b _ _ W,b _ _ Z,b _ _ Y,Paired.mono (fun v q z=>HsO.keepI (d8.same b) z) J,f1,V,U,I},kb,nb,nq,lb,lq,ld,lh,wb,hk}
theorem Mch.base{m:Int}{H0 H H':Hp}{t:aa}{nm:Str}{bs qs:List Str}{ds:List Int}{hs:List (Str×Ds)}{ps:List (Str×Int)}(s:Dm H0 H)(h:Mch m H H' t nm bs qs ds hs ps):Mch m H0 H' t nm bs qs ds hs ps:=by
 obtain⟨⟨bl,ql,dl,hl,O,hv,h1,h2,D,W,Z,Y,J,f1,V,U,I⟩,kb,nb,nq,lb,lq,ld,lh,wb,hk⟩:=h;exact{{bl,ql,dl,hl,O,hv,h1,h2,D,W,Z,Y,Paired.mono (fun v q z=>HsO.base z s) J,s _ f1,s _ V,s _ U,s _ I},kb,nb,nq,lb,lq,ld,lh,wb,hk}
theorem But.dm{p:aa}{H G:Hp}(b:But p H G)(pu:dE G p):Dm H G:=fun a n=>by
 cases e:H a with
 |none=>rfl
 |some o=>
  by_cases c:a=p
  ·obtain⟨x,y,q⟩:=pu;rw[c,q]at n
   cases n
  ·rw[b a o e c]at n
   cases n
theorem tV{H:Hp}:∀{ps:List (Str×Int)} {vs:List V},gU H ps vs->aK (fun v (x:Str)=>∃a n,v=.ref a/\H a=some (.tup [.str x,n])) vs (ps.map (·.1))
 | [],_,h=>by
  cases h;exact .nil
 |p::ps,_,h=>by
  cases h with
  |cons a b=>
   obtain⟨t,e,h⟩:=a;exact .cons {t,_,e,h} (tV (ps:=ps) b)
theorem pJ{Y:Type}{R:V->Y->Prop}:∀{xs:List V} {Z:List Y},aK R xs Z->∀x∈xs,∃a∈Z,R x a
 |_,_,.nil,_,h=>by cases h
 |_,_,.cons a b,x,h=>by
  rcases ar.mp h with z|z
  ·exact{_,aC,by rw[z];exact a}
  ·obtain⟨c,hc,r⟩:=pJ b x z;exact{c,ak _ hc,r}
theorem MIn.moI{m:Int}{H H':Hp}{v:V}{M:MD}(h:MIn m H H' v M):MoI m H' v M:=by
 obtain⟨t,rfl,⟨bl,ql,dl,hl,Y,hv,h1,h2,W,Z,U,O,g,f1,f2,f3,f4⟩,kb,nb,nq,lb,lq,ld,lh,wb,hk⟩:=h;refine{{t,bl,ql,dl,hl,_,Y,hv,rfl,h1,h2,by rw[<- kb];exact tV W,Z,U,O,Paired.mono (fun v q z=>?_) g},{t,bl,ql,_,_,_,Y,rfl,h1,h2,W,Z},kb,nb,nq,lb,lq,ld,lh,wb,hk};obtain⟨u,l,xs,e,g1,g2,J,D,I⟩:=z;exact{u,.ref l,e,g1,l,xs,rfl,J,D,I.now}
theorem MIn.tree{m:Int}{H H':Hp}{v:V}{M:MD}(h:MIn m H H' v M):Tree H' 28 v:=by
 obtain⟨t,rfl,⟨bl,ql,dl,hl,vb,hv,h1,h2,W,I,U,O,Y,f1,f2,f3,f4⟩,kb,nb,nq,lb,lq,ld,lh,wb,hk⟩:=h;have bn:M.ps.length<=9:=by
  have:=congrArg jD kb;rw[au]at this;omega
 refine Tree.atup h1 (by show 5<1000;decide) fun y hy=>?_;simp only[ar,aV,or_false]at hy
 rcases hy with rfl|rfl|rfl|rfl|rfl
 ·exact Tree.scal (by exact trivial) _
 ·exact Tree.alst h2 (by rw[<- W.length];omega) fun z Z=>W.tree (n:=25) z Z
 ·refine Tree.alst I (by rw[au];omega) fun z Z=>?_;obtain⟨x,_,rfl⟩:=cD.mp Z;exact Tree.scal (by exact trivial) _
 ·refine Tree.alst U (by rw[au];omega) fun z Z=>?_;obtain⟨x,_,rfl⟩:=cD.mp Z;exact Tree.scal (by exact trivial) _
 ·refine Tree.alst O (by rw[aZ Y];omega) fun z Z=>?_;obtain⟨q,hq,u,l,xs,rfl,g1,g2,J,g,D⟩:=pJ Y z Z;refine Tree.atup g1 (by show 2<1000;decide) fun y hy=>?_;simp only[ar,aV,or_false]at hy
  rcases hy with rfl|rfl
  ·exact Tree.scal (by exact trivial) _
  ·exact Tree.alst J g fun z Z=>fK.tree q.2 xs 24 D.now (by have:=(hk q hq).2.1;omega) z Z
theorem B5.alike{H H':Hp}{v O:V}{M:MD}(h:B5 H v M)(al:Alike H H' 28 v O):B5 H' O M:=by
 obtain⟨t,bl,ql,n0,x3,x4,vb,rfl,h1,h2,g,h4⟩:=h;obtain⟨t',bW,rfl,U,Z⟩:=uD h1 al;obtain⟨z0,Y,rfl,a0,Z⟩:=dN Z;obtain⟨z1,Y,rfl,a1,Z⟩:=dN Z;obtain⟨z2,Y,rfl,a2,Z⟩:=dN Z;obtain⟨z3,Y,rfl,a3,Z⟩:=dN Z;obtain⟨D,Y,rfl,a4,Z⟩:=dN Z;obtain rfl:=oK Z;obtain⟨I,W,rfl,c1,d1⟩:=oF h2 a1;obtain⟨q',vq,rfl,J,d2⟩:=oF h4 a2;rw[iS d2 (by intro x hx;obtain⟨z,_,rfl⟩:=cD.mp hx;exact trivial)]at J;exact{t',I,q',z0,z3,D,W,rfl,U,c1,g.alike d1,J}
theorem Ea{m:Int}{H0 H:Hp}{Z:aa}{xs:List V}{Ms:List MD}(h:H Z=some (.lst xs))(p:aK (MIn m H0 H) xs Ms)(l:Ms.length<1000):Tree H 29 (.ref Z):=
 Tree.alst h (by rw[aZ p];exact l) fun x hx=>by
  obtain⟨M,_,z⟩:=pJ p x hx;exact z.tree
theorem KS{m:Int}{H0 H H2:Hp}{W:aa}{xs:List V}{Ms:List MD}{Y:V}(h:H W=some (.lst xs))(p:aK (MIn m H0 H) xs Ms)(U:Alike H H2 29 (.ref W) Y):∃Z,Y=.ref Z/\zt m H2 Z Ms:=by
 obtain⟨Z,ys,rfl,h1,O⟩:=oF h U;refine{Z,rfl,ys,h1,rB (R:=MIn m H0 H) (S:=Alike H H2 28) (T:=Tree H 28) (fun v M Y a b c=>?_) p O fun x hx=>?_}
 ·have z:=a.moI;exact{z.ma.alike c b,z.fs.alike b,z.kb,z.nb,z.nq,z.lb,z.lq,z.ld,z.lh,z.wb,z.hk}
 ·obtain⟨M,_,z⟩:=pJ p x hx;exact z.tree
theorem OA:abc.cps.toList.Nodup:=by decide +kernel
def GN(b:Nat)(Z:List Str):Prop:=∀i s,Z[i]?=some s->∃c,abc.cps.toList[b+i]?=some c/\s.cps.toList[0]?=some c
theorem KU{i j:Nat} {c} (hi:abc.cps.toList[i]?=some c) (Z:abc.cps.toList[j]?=some c):i=j:=by
 have li:=(aG.mp hi).1;exact (List.getElem?_inj li OA).mp (hi.trans Z.symm)
theorem KW{n:Nat}(h1:n<26):∃c,abc.cps.toList[n]?=some c/\atI abc.cps.toList (n:Int)=some c:=by
 have l:n<abc.cps.toList.length:=by rw[DY];omega
 exact{abc.cps.toList[n],aH l,je (aH l)}
theorem GN.nodup{b:Nat}{Y:List Str}(h:GN b Y):Y.Nodup:=by
 refine dD.mpr fun i j li W V e=>?_;obtain⟨c,a1,a2⟩:=h i _ (aH li);obtain⟨d,U,Z⟩:=h j _ (aH W);rw[<- e,a2]at Z
 cases Z;have z:=KU a1 U;omega
theorem GN.snoc{b:Nat}{Z:List Str}{s:Str} {c} (h:GN b Z) (h2:abc.cps.toList[b+Z.length]?=some c) (V:s.cps.toList[0]?=some c):GN b (Z++[s]):=by
 intro i x e
 by_cases hi:i<Z.length
 ·rw[eQ hi]at e;exact h i x e
 ·rw[df (by omega)]at e;obtain⟨W,_⟩:=aG.mp e;have W:i-Z.length<1:=W;have Y:i=Z.length:=by omega
  subst Y;rw[mJ]at e
  cases e;exact⟨c,h2,V⟩
theorem zz{x y:Str} {c} (h:x.cps.toList[0]?=some c):(x++y).cps.toList[0]?=some c:=by
 show (x.cps++y.cps).toList[0]?=some c;rw[Array.toList_append,eQ (aG.mp h).1];exact h
section
variable{P:aM}{w:bO}{K:af}{mg:Str->Option ae}{base:cC}{f fD fNm:aa}{fd fdD fdNm:bX}
seal PS PSs PE PA PT PW PI PG PGs PC
abbrev nNm:List Str:=["_law_purse_here","_law_long","_law_word","_law_k"]
abbrev pNm:List Str:=["_law_purse_here","_law_long"]
theorem KY:bN nNm pNm (aL pA):={}
inductive Ma(vs:List V)(H:Hp)(Q:VK)(_e:XK):Prop where
 |mk(p:aa)(n:Int)(_:vs=[.ref p,.int n])(_:dE H p)(_:0<n)(_:n<=9)(_:∀(s:Str) (H':Hp),s.length<=9->dE H' p->But p H H'->Q (.str s) H'):Ma vs H Q _e
def spNm:Sp:=fun vs H Q Z=>Ma vs H Q Z
theorem ok_nm(D:Df K mg "_law_name" pA pNm f fd)(Y:Df K mg "_law_draw" eC pD fD fdD)(B:Bl mg):bL P w K mg base CX0 2 f fd pNm spNm:=by
 have O:bL P w K mg base CX0 1 fD fdD pD jL:=jM Y;refine D.F.ok KY (fun vs H Q E h=>?_) (fun g A outer s H vs Q E hr h=>?_)
 ·obtain⟨p,n,rfl,_⟩:=h;rfl
 obtain⟨p,n,rfl,pu,n0,n9,q⟩:=h;have r1:cZ 1 _:=hr;refine⟨_,ah (bJ (i:=2) KY.nd rfl (Or.inl rfl) bS)
  (ah (jX dC rfl (jr (by rfl) B.range (oR (cR gK av (aI O r1 (by rfl) Y.m Y.F.kp Y.b .nil bC (aR (pv 0) (aR (pv 1) ag)))) ag)) (eA (i:=3) KY.nd rfl (Or.inl rfl)) (aA (bJ (i:=2) KY.nd rfl (Or.inl rfl) (cR wA (pv 2) (bY FX bS (aI O r1 (by rfl) Y.m Y.F.kp Y.b .nil bC (aR (pv 0) (dS av ag))) (fun _ _=>rfl))))))
  (aA (bE (pv 2)))),?_⟩
 have big:=d9;refine bU (cO (bK ?_));dsimp only;refine bU {_,rfl,_,rfl,p,n,rfl,pu,by omega,by omega,fun r G r0 I Z W=>{_,_,rfl,rfl,1+r,rfl,by omega,by omega,?_}};refine qZ (n:=(1+r).toNat) (fun i σ G=>∃(w:Str) (u:Option V),σ=[some (.ref p),some (.int n),some (.str w),u]/\w.length=i/\dE G p/\But p H G) {_,_,rfl,rfl,Z,W} ?_ ?_
 ·rintro i σ G hi ⟨w,u,rfl,hw,Z,W⟩;refine cO {_,rfl,_,rfl,p,26,rfl,Z,by decide,by decide,fun x G2 z x1 U J=>?_};obtain⟨c,hc⟩:=Oz z x1;refine{abc,_,c,rfl,rfl,yw,hc,w,{#[c]},rfl,rfl,?_,?_}
  ·show w.length+1<=aB;omega
  ·exact{_,_,rfl,by rw[AQ,hw];rfl,U,W.trans J}
 ·rintro σ G ⟨w,u,rfl,hw,Z,W⟩;dsimp only;exact eW {_,rfl,q w G (by omega) Z W}
abbrev nN:List Str:=["_law_purse_here","_law_many","_law_first"]
abbrev pN:List Str:=["_law_purse_here","_law_many","_law_first"]
theorem scN:bN nN pN (aL kD):={}
theorem ndN:((["_law_k"]:List Str)++nN).Nodup:=by decide +kernel
inductive AR(vs:List V)(H:Hp)(Q:VK)(_e:XK):Prop where
 |mk(p:aa)(n fs:Nat)(_:vs=[.ref p,.int n,.int fs])(_:dE H p)(_:n<=9)(_:fs+n<=26)(_:∀(l:aa) (ss:List Str) (H':Hp),H l=none->H' l=some (.lst (ss.map V.str))->ss.length=n->ss.Nodup->dE H' p->But p H H'->Q (.ref l) H'):AR vs H Q _e
def Eb:Sp:=fun vs H Q Z=>AR vs H Q Z
theorem II(D:Df K mg "_law_names" kD pN f fd)(W:Df K mg "_law_name" pA pNm fNm fdNm)(DD:Df K mg "_law_draw" eC pD fD fdD)(B:Bl mg):bL P w K mg base CX0 3 f fd pN Eb:=by
 have I:bL P w K mg base CX0 2 fNm fdNm pNm spNm:=ok_nm W DD B;refine D.F.ok scN (fun vs H Q E h=>?_) (fun bn A outer s H vs Q E hr h=>?_)
 ·obtain⟨p,n,fs,rfl,_⟩:=h;rfl
 obtain⟨p,n,fs,rfl,pu,n9,bi,q⟩:=h;have r2:cZ 2 _:=hr;refine{_,aA (bE (o7 ["_law_k"] (iX.open (NN:=nN) (N:=nN) (sc:=aL kD) rfl rfl (by decide +kernel) rfl (by decide +kernel) (by decide +kernel) rfl (by decide +kernel)) rfl (jr (by rfl) B.range (aR (pv 1) ag)) (fun _ _ _ _=>eA (i:=0) ndN rfl (Or.inl rfl)) (fun _ _ _ _=>lu) (fun _ _ _ _=>cR wA (bY FX bS (cR gK (pv 3) (pv 0)) (fun _ _=>rfl)) (aI I r2 (by rfl) W.m W.F.kp W.b .nil bC (aR (pv 1) (dS av ag)))))),?_};have big:=d9;refine eW ?_;refine uM (fun m G'=>m=n/\G'=H) (fun R g=>{_,rfl,g n H ⟨rfl,rfl⟩}) (fun m G' h=>by omega) (fun m G' i ys G=>∃Z:List Str,ys=Z.map V.str/\Z.length=i/\GN fs Z/\dE G p/\But p H G) ?_ ?_ ?_ ?_
 ·rintro m G' ⟨rfl,rfl⟩;exact{[],rfl,rfl,(fun i x e=>by cases e),pu,But.refl _ _}
 ·rintro m G' ⟨rfl,rfl⟩ i ys G hi ⟨Z,rfl,hs,_⟩;rw[au];omega
 ·rintro m G' ⟨rfl,rfl⟩ i ys G hi ⟨Z,rfl,hs,gn,Y,U⟩;refine bK {rfl,?_};unfold xJ;refine gG ?_;obtain⟨c,J,hc⟩:=KW (n:=fs+i) (by omega);refine{_,rfl,_,rfl,_,_,rfl,rfl,abc,_,c,rfl,rfl,yw,(by rw[show (fs:Int)+(0+(i:Int))=((fs+i:Nat):Int) by omega];exact hc),_,rfl,p,5,rfl,Y,by decide,by decide,fun s' G2 ls O z=>{_,_,rfl,rfl,?_,?_}}
  ·show 1+s'.length<=aB;omega
  ·exact{Z++[{#[c]}++s'],by rw[cw];rfl,by rw[ay,hs];rfl,gn.snoc (c:=c) (by rw[hs];exact J) (zz rfl),O,U.trans z}
 ·rintro m G' ⟨rfl,rfl⟩ ys G ⟨Z,rfl,hs,gn,Y,U⟩ l hl;have st:=aE hl (.lst (Z.map V.str));exact q l Z _ (U.dm Y l hl) aj hs gn.nodup (Y.same st) (U.same st)
end
theorem tW{H:Hp}{p lb:aa}{bs:List Str}(pu:dE H p)(hb:H lb=some (.lst (bs.map V.str))):lb≠p:=by
 obtain⟨x,y,e⟩:=pu;refine pO hb e fun z=>?_
 cases bs with
 |nil=>cases z
 |cons b r=>cases z
theorem kJ{bs:List Str}{r:Int}(h0:0<=r)(h1:r<bs.length):∃x,atI (bs.map V.str) r=some (.str x)/\x∈bs:=by
 obtain⟨j,rfl⟩:∃j:Nat,r=(j:Int):={r.toNat,by omega};have lt:j<bs.length:=by omega
 exact{bs[j],je (by rw[cQ,aH lt];rfl),vS lt}
theorem jz.but{bs qs:List Str}{H H':Hp}{p:aa}{v:V}{f:Fm}(pu:dE H p)(b:But p H H')(h:jz bs qs H v f):jz bs qs H' v f:=h.mono fun t xs e=>d8.but pu b _ _ e (n6 xs)
theorem uO{n:Int}(h:-1000000<=n/\n<=1000000):Wo n:=by
 have e:(10:Int)^15=1000000000000000:=by decide
 unfold Wo;omega
def zA:List Str:=["plus","less","times","part","rest","below","same","plus"]
theorem IJ{r:Int}(h0:0<=r)(h1:r<8):∃x,atI (zA.map V.str) r=some (.str x)/\x∈C8:=by
 obtain⟨x,hx,m⟩:=kJ (bs:=zA) h0 h1;refine{x,hx,?_};have:∀y∈zA,y∈C8:=by decide +kernel
 exact this x m
theorem kS{H:Hp}{a:aa}(Z:H a=none)(o:HO):upd H a o a=some o:=aj
theorem vC{t u:TS}{D:nv}{σ:St}{H:Hp}(I:St->Hp->Prop)(hu:∀Z H',I Z H'->u D Z H')(h:∀N:St->Hp->Prop,(∀Z H',I Z H'->N Z H')->t {D with nx:=N} σ H):M9 t u D σ H:=h _ hu
theorem rE{xs:List V}(h:(!xs.isEmpty)=true):0<xs.length:=by
 cases xs with
 |nil=>cases h
 |cons y ys=>exact qL _
theorem zB{x y:V}{b:Bool}:atI [x,y] (if b=true then 1 else 0)=some (if b=true then y else x):=by
 cases b<;>rfl
section
variable{P:aM}{w:bO}{K:af}{mg:Str->Option ae}{base:cC}{f fD fW:aa}{fd fdD fdW:bX}{bs qs:List Str}
seal PS PSs PE PA PT PW PI PG PGs PC
abbrev nFo:List Str:=["_law_purse_here","_law_low","_law_boxes","_law_queues","_law_pick","_law_word","_law_one"]
abbrev pFo:List Str:=["_law_purse_here","_law_low","_law_boxes","_law_queues"]
theorem KZ:bN nFo pFo (aL gY):={}
inductive Mb(bs qs:List Str)(n:Nat)(vs:List V)(H:Hp)(Q:VK)(_e:XK):Prop where
 |mk(p lb lq:aa)(d:Nat)(_:vs=[.ref p,.int d,.ref lb,.ref lq])(_:d<n)(_:dE H p)(_:H lb=some (.lst (bs.map V.str)))(_:H lq=some (.lst (qs.map V.str)))(_:bs.length<=9)(_:qs.length<=9)(_:∀(v:V) (F:Fm) (H':Hp),jz bs qs H' v F->F.depth<=d+1->dE H' p->But p H H'->Q v H'):Mb bs qs n vs H Q _e
def IK(bs qs:List Str)(n:Nat):Sp:=fun vs H Q Z=>Mb bs qs n vs H Q Z
theorem K2{n:Nat}(D:Df K mg "_law_formula" gY pFo f fd)(U:Df K mg "_law_draw" eC pD fD fdD)(DW:Df K mg "_law_worth" gb pW fW fdW)(B:Bl mg)(GR:bL P w K mg base CX0 (n+2) f fd pFo (IK bs qs n)):bL P w K mg base CX0 (n+3) f fd pFo (IK bs qs (n+1)):=by
 have GD:bL P w K mg base CX0 1 fD fdD pD jL:=jM U;have GW:bL P w K mg base CX0 2 fW fdW pW vV:=xo DW U B;refine D.F.ok KZ (fun vs H Q E h=>?_) (fun dG A outer s H vs Q E hr h=>?_)
 ·obtain⟨p,lb,lq,d,rfl,_⟩:=h;rfl
 obtain⟨p,lb,lq,d,rfl,dn,pu,hb,hq,ej,ek,k⟩:=h;have et:=BF hr;have r1:cZ 1 _:=hr.mono (by omega);have r2:cZ 2 _:=hr.mono (by omega);refine⟨_,ah (bJ (i:=4) KZ.nd rfl (Or.inl rfl) (aI GD r1 (by rfl) U.m U.F.kp U.b .nil bC (aR (pv 0) (pI (bY dO (eU (dS av (dS av ag))) (hZ q8 (by rfl) B.int boot_int (aq (oW uS (pv 1) av (cq _)) ag)) (fun _ _=>rfl)) ag))))
  (ah (cH (bQ rN (pv 4) av (cq _)) (aA (bE (dZ (dS bS (iz (aI GW r2 (by rfl) DW.m DW.F.kp DW.b .nil bC (aR (pv 0) ag)) ag))))) bP)
  (ah (cH ((jA (bQ fc (pv 4) av (cq _)) (iM (bQ (zg et) (pv 2) (eU ag) (cq _)))).pt) (aA (bE (dZ (dS bS (pI (bY dO (pv 2) (aI GD r1 (by rfl) U.m U.F.kp U.b .nil bC (aR (pv 0) (iz (cb (eu K (by rfl)) (by rfl) B.len cu (aR (pv 2) ag)) ag))) (fun _ _=>rfl)) ag))))) bP)
  (ah (cH ((jA (bQ fc (pv 4) av (cq _)) (iM (bQ (zg et) (pv 3) (eU ag) (cq _)))).pt) (aA (bE (dZ (dS bS (pI (bY dO (pv 3) (aI GD r1 (by rfl) U.m U.F.kp U.b .nil bC (aR (pv 0) (iz (cb (eu K (by rfl)) (by rfl) B.len cu (aR (pv 3) ag)) ag))) (fun _ _=>rfl)) ag))))) bP)
  (ah (cH (bQ fc (pv 4) av (cq _)) (aA (bE (dZ (dS bS ag)))) bP)
  (ah (cH (bQ rN (pv 4) av (cq _)) (aA (bE (dZ (dS bS (iz (aI GD r1 (by rfl) U.m U.F.kp U.b .nil bC (aR (pv 0) (dS av ag))) ag))))) bP)
  (ah (bJ (i:=5) KZ.nd rfl (Or.inl rfl) (bY dO (eU (dS bS (dS bS (dS bS (dS bS (dS bS (dS bS (dS bS (dS bS ag))))))))) (aI GD r1 (by rfl) U.m U.F.kp U.b .nil bC (aR (pv 0) (dS av ag))) (fun _ _=>rfl)))
  (ah (bJ (i:=6) KZ.nd rfl (Or.inl rfl) (aI GR hr (by rfl) D.m D.F.kp D.b .nil bC (aR (pv 0) (oR (cR jk (pv 1) av) (aR (pv 2) (aR (pv 3) ag))))))
  (aA (bE (dZ (aR (pv 5) (aR (pv 6) (iz (aI GR hr (by rfl) D.m D.F.kp D.b .nil bC (aR (pv 0) (oR (cR jk (pv 1) av) (aR (pv 2) (aR (pv 3) ag))))) ag))))))))))))),?_⟩
 have big:=d9;have nb:=tW pu hb;have nq:=tW pu hq;refine bU (cO {_,rfl,lt2,fun l0 eo=>?_});have s0:=aE eo (.lst [.int 6,.int 10]);refine{_,rfl,_,_,rfl,rfl,.inr {_,rfl,l0,_,_,_,rfl,rfl,SqL.of aj,zB,?_}};obtain⟨m,em,m6,md⟩:∃m:Int,(if decide ((d:Int)>0)=true then V.int 10 else V.int 6)=.int m/\(0<m/\m<100)/\(d=0->m=6):=by
  by_cases c:(d:Int)>0
  ·rw[decide_eq_true c];exact{10,rfl,by decide,fun z=>by omega}
  ·rw[decide_eq_false c];exact{6,rfl,by decide,fun _=>rfl}
 rw[em];refine{p,m,rfl,pu.same s0,m6.1,by omega,fun pk G eb dV Z I=>bK ?_};have I:=(But.same (But.refl p H) s0).trans I;clear s0 eo;dsimp only;have g:∀{G:Hp},But p H G->G lb=some (.lst (bs.map V.str)):=fun b=>b _ _ hb nb;have eL:∀{G:Hp},But p H G->G lq=some (.lst (qs.map V.str)):=fun b=>b _ _ hq nq;refine bU (fh {_,rfl,_,_,rfl,rfl,_,rfl,gC (fun _=>?_) (fun _=>?_)})
 ·refine eW {_,rfl,p,rfl,Z,fun r G2 r0 Y W b2=>{lt2,fun t ht=>?_}};have st:=aE ht (.tup [.str "number",.int r]);exact k _ (.num r) _ (.num aj ⟨r0,Y⟩) (by show 1<=d+1;omega) (W.same st) ((I.trans b2).same st)
 dsimp only[jq];refine vC (fun ew G=>ew=[some (.ref p),some (.int d),some (.ref lb),some (.ref lq),some (.int pk),none,none]/\dE G p/\But p H G) ?_ ?_
 rotate_left
 ·intro N hN;refine fh {_,rfl,rfl,_,rfl,gC (fun _=>?_) (fun _=>eE (hN _ _ ⟨rfl,Z,I⟩))};refine{_,rfl,by show 0<=aB;omega,fun e0 ey=>?_};have J:=aE ey (.lst []);refine{lb,e0,_,rfl,rfl,J _ _ (g I),aj,_,rfl,gC (fun ne=>?_) (fun _=>hN _ _ {rfl,Z.same J,I.same J})};have l0:=rE ne;rw[au]at l0;refine eW {_,rfl,_,rfl,_,rfl,lb,_,rfl,.inl (SqL.of (J _ _ (g I))),p,_,rfl,Z.same J,by rw[au];omega,by rw[au];omega,fun r G2 r0 Y W b2=>?_};rw[au]at Y;obtain⟨x,hx,mx⟩:=kJ r0 Y;have eH:=(I.same J).trans b2;refine{lb,_,_,_,rfl,rfl,SqL.of (g eH),hx,lt2,fun t ht=>?_};have st:=aE ht (.tup [.str "box",.str x]);exact k _ (.box x) _ (.box aj mx) (by show 1<=d+1;omega) (W.same st) (eH.same st)
 rintro _ G1 ⟨rfl,O,b1⟩;refine vC (fun ew G=>ew=[some (.ref p),some (.int d),some (.ref lb),some (.ref lq),some (.int pk),none,none]/\dE G p/\But p H G) ?_ ?_
 rotate_left
 ·intro N hN;refine fh {_,rfl,rfl,_,rfl,gC (fun _=>?_) (fun _=>eE (hN _ _ ⟨rfl,O,b1⟩))};refine{_,rfl,by show 0<=aB;omega,fun e0 ey=>?_};have J:=aE ey (.lst []);refine{lq,e0,_,rfl,rfl,J _ _ (eL b1),aj,_,rfl,gC (fun ne=>?_) (fun _=>hN _ _ {rfl,O.same J,b1.same J})};have l0:=rE ne;rw[au]at l0;refine eW {_,rfl,_,rfl,_,rfl,lq,_,rfl,.inl (SqL.of (J _ _ (eL b1))),p,_,rfl,O.same J,by rw[au];omega,by rw[au];omega,fun r G2 r0 Y W b2=>?_};rw[au]at Y;obtain⟨x,hx,mx⟩:=kJ r0 Y;have eH:=(b1.same J).trans b2;refine{lq,_,_,_,rfl,rfl,SqL.of (eL eH),hx,lt2,fun t ht=>?_};have st:=aE ht (.tup [.str "long",.str x]);exact k _ (.long x) _ (.long aj mx) (by show 1<=d+1;omega) (W.same st) (eH.same st)
 rintro _ G ⟨rfl,Z,I⟩;clear O b1;refine bU (fh {_,rfl,rfl,_,rfl,gC (fun _=>?_) (fun _=>?_)})
 ·refine eW {B3,fun t ht=>?_};have st:=aE ht (.tup [.str "now"]);exact k _ .now _ (.now aj) (by show 1<=d+1;omega) (Z.same st) (I.same st)
 dsimp only[jq];refine bU (fh {_,rfl,_,_,rfl,rfl,_,rfl,gC (fun _=>?_) (fun c6=>?_)})
 ·refine eW {_,rfl,p,2,rfl,Z,by decide,by decide,fun a4 G4 a40 a41 eh b4=>{lt2,fun t4 ef=>?_}};have q4:=aE ef (.tup [.str "got",.int a4]);have er:a4=if (decide (a4=1))=true then 1 else 0:=by
   by_cases c:a4=1
   ·rw[decide_eq_true c,if_pos rfl];exact c
   ·rw[decide_eq_false c,if_neg (by decide)];omega
  exact k _ (.got (decide (a4=1))) _ (.got (by rw[aj,<- er])) (by show 1<=d+1;omega) (eh.same q4) ((I.trans b4).same q4)
 dsimp only[jq];have c6:¬pk<6:=fun z=>c6 (decide_eq_true z);obtain⟨e,rfl⟩:∃e,d=e+1:=⟨d-1,by
  by_cases z:d=0
  ·have:=md z;omega
  ·omega⟩
 have el:((e+1:Nat):Int)-1=(e:Int):=by omega
 refine bU (cO {by show 8<=aB;omega,fun l hl=>?_});have ql:=aE hl (.lst (zA.map V.str));refine{_,rfl,p,8,rfl,Z.same ql,by decide,by decide,fun r G1 r0 Y O b1=>?_};have ec:l≠p:=sQ Z hl;obtain⟨x,hx,mx⟩:=IJ r0 Y;refine{l,_,_,_,rfl,rfl,SqL.of (b1 _ _ aj ec),hx,bK ?_};dsimp only;have eF:But p H G1:=(I.same ql).trans b1;refine bU (cO {_,rfl,_,rfl,_,_,rfl,rfl,_,rfl,_,rfl,p,lb,lq,e,(by show [V.ref p,V.int (((e+1:Nat):Int)-1),V.ref lb,V.ref lq]=_;rw[el]),by omega,O,g eF,eL eF,ej,ek,fun v1 F1 G2 ee dL W b2=>bK ?_});dsimp only;have ez:=eF.trans b2;refine eW {_,rfl,_,rfl,_,rfl,_,rfl,_,_,rfl,rfl,_,rfl,_,rfl,p,lb,lq,e,(by show [V.ref p,V.int (((e+1:Nat):Int)-1),V.ref lb,V.ref lq]=_;rw[el]),by omega,W,g ez,eL ez,ej,ek,fun v2 F2 G3 ed ea ei b3=>{by show 3<=aB;omega,fun t ht=>?_}};have qt:=aE ht (.tup [.str x,v1,v2]);exact k _ (.two x F1 F2) _ (.two aj mx ((ee.but W b3).mono fun t xs e=>qt _ _ e) (ed.mono fun t xs e=>qt _ _ e)) (by show max F1.depth F2.depth+1<=e+1+1;omega) (ei.same qt) ((ez.trans b3).same qt)
theorem IL(D:Df K mg "_law_formula" gY pFo f fd)(Y:Df K mg "_law_draw" eC pD fD fdD)(Z:Df K mg "_law_worth" gb pW fW fdW)(B:Bl mg):∀n:Nat,bL P w K mg base CX0 (n+2) f fd pFo (IK bs qs n)
 |0=>⟨fun vs H Q E h=>by
   obtain⟨p,lb,lq,d,_,h,_⟩:=h;omega,fun A outer s H args us vs Q E _ _ _ _ h=>by
   obtain⟨p,lb,lq,d,_,h,_⟩:=h;omega⟩
 |n+1=>K2 D Y Z B (IL D Y Z B n)
end
end My
namespace L2
open PySem PySem.Spec PyProof.Rows PySem.SeqAt
section
variable{X:Cx}
theorem IM(hu:X.A.units+50<eN):OpR X (c5 .Eq) (fun x y H Q=>∃p q xs,x=.ref p/\y=.ref q/\H p=some (.lst xs)/\H q=some (.lst [])/\Q (.bl xs.isEmpty) H):=by
 intro pins s σ H x y v u Q I Y Z h;obtain⟨p,q,xs,rfl,rfl,h1,h2,k⟩:=h
 cases Y
 cases Z;obtain⟨us,r1,i1⟩:=iw I.hok h1;obtain⟨vs,r2,i2⟩:=iw I.hok h2
 cases r2;have hl:=r1.length
 cases xs with
 |nil=>
  cases r1;exact RcAt.lists (A:=X.A) (e:=fun _=>true) i1 i2 rfl (by omega) (fun j a b=>absurd a (gz _)) X.prog X.w _ _ {.bl true,H,I,rfl,k}
 |cons a xs=>
  exact RcAt.lists_lengths i1 i2 (by
   cases us with
   |nil=>cases hl
   |cons b us=>simp) (by omega) X.prog X.w _ _ {.bl false,H,I,rfl,k}
end
end L2
namespace My
open PySem L2
structure Th(H:Hp)(lt lb lq:aa)(bs qs:List Str):Prop where
 ht:H lt=some (.tup [.ref lb,.ref lq])
 hb:H lb=some (.lst (bs.map V.str))
 hq:H lq=some (.lst (qs.map V.str))
 lb:bs.length<=9
 lq:qs.length<=9
theorem Th.keepI{H H':Hp}{lt lb lq:aa}{bs qs:List Str}(k:d8 H H')(h:Th H lt lb lq bs qs):Th H' lt lb lq bs qs:=
 {k _ _ h.ht (n6 _),k _ _ h.hb (DX _),k _ _ h.hq (DX _),h.lb,h.lq}
theorem IP{r:Int}(h0:0<=r)(h1:r<3):∃x:Str,atI [V.str "go",.str "on",.str "stop"] r=some (.str x):=by
 obtain⟨x,hx,_⟩:=kJ (bs:=["go","on","stop"]) h0 h1;exact⟨x,hx⟩
section
variable{P:aM}{w:bO}{K:af}{mg:Str->Option ae}{base:cC}{f fD fW fF fSe fS fE:aa}{fd fdD fdW fdF fdSe fdS fdE:bX}{bs qs:List Str}
seal PS PSs PE PA PT PW PI PG PGs PC
abbrev nSd:List Str:=["_law_purse_here","_law_there","_law_many","_law_boxes","_law_queues","_law_span","_law_to","_law_sign_here","_law_one"]
abbrev pSd:List Str:=["_law_purse_here","_law_there","_law_many"]
theorem AS:bN nSd pSd (aL lU):={}
inductive Mc(bs qs:List Str)(vs:List V)(H:Hp)(Q:VK)(_e:XK):Prop where
 |mk(p lt lb lq:aa)(m:Int)(_:vs=[.ref p,.ref lt,.int m])(_:dE H p)(_:Th H lt lb lq bs qs)(_:0<m)(_:m<1000)(_:∀(v:V) (dd:Dd) (H':Hp),OwD bs qs H H' dd v->dd.toOk m->dd.deep=0->dd.size<=1->dE H' p->But p H H'->Q v H'):Mc bs qs vs H Q _e
def spSd(bs qs:List Str):Sp:=fun vs H Q Z=>Mc bs qs vs H Q Z
theorem ok_sd(D:Df K mg "_law_send" lU pSd f fd)(O:Df K mg "_law_formula" gY pFo fF fdF)(Z:Df K mg "_law_draw" eC pD fD fdD)(DW:Df K mg "_law_worth" gb pW fW fdW)(B:Bl mg):bL P w K mg base CX0 5 f fd pSd (spSd bs qs):=by
 have GD:bL P w K mg base CX0 1 fD fdD pD jL:=jM Z;have GF:bL P w K mg base CX0 4 fF fdF pFo (IK bs qs 2):=IL O Z DW B 2;refine D.F.ok AS (fun vs H Q E h=>?_) (fun ef A outer s H vs Q E hr h=>?_)
 ·obtain⟨p,lt,lb,lq,m,rfl,_⟩:=h;rfl
 obtain⟨p,lt,lb,lq,m,rfl,pu,T,m0,m1,k⟩:=h;have r1:cZ 1 _:=hr.mono (by decide);have r4:cZ 4 _:=hr;refine⟨_,ah (ug (pv 1) (yL rfl (km (eA (i:=3) AS.nd rfl (Or.inl rfl)) (km (eA (i:=4) AS.nd rfl (Or.inl rfl)) vE))))
  (ah (bJ (i:=5) AS.nd rfl (Or.inl rfl) (dZ (dS bS (oR (cR gK av (aI GD r1 (by rfl) Z.m Z.F.kp Z.b .nil bC (aR (pv 0) (dS av ag)))) ag))))
  (ah (cH (bQ fc (aI GD r1 (by rfl) Z.m Z.F.kp Z.b .nil bC (aR (pv 0) (dS av ag))) av (cq _)) (aA (bJ (i:=5) AS.nd rfl (Or.inl rfl) (aI GF r4 (by rfl) O.m O.F.kp O.b .nil bC (aR (pv 0) (dS av (aR (pv 3) (aR (pv 4) ag))))))) bP)
  (ah (bJ (i:=6) AS.nd rfl (Or.inl rfl) (aI GD r1 (by rfl) Z.m Z.F.kp Z.b .nil bC (aR (pv 0) (aR (pv 2) ag))))
  (ah (bJ (i:=7) AS.nd rfl (Or.inl rfl) (bY dO (eU (dS bS (dS bS (dS bS ag)))) (aI GD r1 (by rfl) Z.m Z.F.kp Z.b .nil bC (aR (pv 0) (dS av ag))) (fun _ _=>rfl)))
  (ah (bJ (i:=8) AS.nd rfl (Or.inl rfl) (aI GF r4 (by rfl) O.m O.F.kp O.b .nil bC (aR (pv 0) (dS av (aR (pv 3) (aR (pv 4) ag))))))
  (aA (bE (dZ (dS bS (aR (pv 6) (aR (pv 7) (aR (pv 5) (iz (aI GD r1 (by rfl) Z.m Z.F.kp Z.b .nil bC (aR (pv 0) (dS av ag))) (aR (pv 8) (iz (aI GF r4 (by rfl) O.m O.F.kp O.b .nil bC (aR (pv 0) (dS av (aR (pv 3) (aR (pv 4) ag))))) ag))))))))))))))),?_⟩
 have big:=d9;refine bU (cO {_,rfl,lt,_,rfl,SqT.of T.ht,rfl,_,_,rfl,bK {_,_,rfl,bK {rfl,?_}}});dsimp only;refine bU (cO {_,rfl,p,7,rfl,pu,by decide,by decide,fun a G a0 a1 et bG=>{_,_,rfl,rfl,lt2,fun t1 fe=>bK ?_}});dsimp only;have s1:=aE fe (.tup [.str "number",.int (1+a)]);have J:=(d8.but pu bG).trans (d8.same s1);have W:=et.same s1;have b1:=bG.same s1;have f1:FmI bs qs (upd G t1 (.tup [.str "number",.int (1+a)])) (.ref t1) (.num (1+a)):={.num aj (uO (by omega)),by show 1<=15;decide};revert J W b1 f1;clear s1 fe;generalize upd G t1 (.tup [.str "number",.int (1+a)])=G1;intro J W b1 f1
 -- the span
 refine vC (fun er G=>∃(v5:V) (F:Fm),er=[some (.ref p),some (.ref lt),some (.int m),some (.ref lb),some (.ref lq),some v5,none,none,none]/\FmI bs qs G v5 F/\dE G p/\But p H G/\d8 H G) ?_ ?_
 rotate_left
 ·intro N hN;refine fh {_,rfl,p,8,rfl,W,by decide,by decide,fun r G2 r0 r8 Y z=>{rfl,_,rfl,gC (fun _=>?_) (fun _=>hN _ _ {_,_,rfl,f1.keepI (d8.but W z),Y,b1.trans z,J.trans (d8.but W z)})}};have I:=J.trans (d8.but W z);have T2:=T.keepI I;refine cO {_,rfl,_,rfl,_,rfl,p,lb,lq,1,rfl,by decide,Y,T2.hb,T2.hq,T.lb,T.lq,fun v F G3 hF dF U b3=>bK (hN _ _ {v,F,rfl,{hF,by omega},U,(b1.trans z).trans b3,I.trans (d8.but Y b3)})}
 rintro _ G2 ⟨v5,F5,rfl,f5,Y,z,I⟩;refine bU (cO {_,rfl,_,rfl,p,m,rfl,Y,by omega,by omega,fun to G3 to0 to1 U b3=>bK ?_});dsimp only;refine bU (cO {by show 3<=aB;omega,fun l3 eL=>?_});have s3:=aE eL (.lst [.str "go",.str "on",.str "stop"]);refine{_,rfl,p,3,rfl,U.same s3,by decide,by decide,fun r G4 r0 r3 fk b4=>?_};obtain⟨sg,em⟩:=IP r0 r3;refine{l3,_,_,_,rfl,rfl,SqL.of (b4 _ _ aj (sQ U eL)),em,bK ?_};dsimp only;have ez:=((d8.but Y b3).trans (d8.same s3)).trans (d8.but (U.same s3) b4);have T4:=T.keepI (I.trans ez);refine bU (cO {_,rfl,_,rfl,_,rfl,p,lb,lq,1,rfl,by decide,fk,T4.hb,T4.hq,T.lb,T.lq,fun v6 F6 G5 ew ei eF b5=>bK ?_});dsimp only;refine eW {_,rfl,_,rfl,_,rfl,_,rfl,p,10,rfl,eF,by decide,by decide,fun rk G6 ek eh fa b6=>{_,rfl,_,rfl,_,rfl,_,rfl,?_}};have eH:=d8.but fk b5;have g:=d8.but eF b6;have T6:=T4.keepI (eH.trans g);refine{p,lb,lq,0,rfl,by decide,fa,T6.hb,T6.hq,T.lb,T.lq,fun v7 F7 G7 el ej eo b7=>{by show 7<=aB;omega,fun t ht=>?_}};have st:=aE ht (.tup [.str "send",.int to,.str sg,v5,.int rk,v6,v7]);have f6:FmI bs qs G5 v6 F6:={ew,by omega};have f7:FmI bs qs G7 v7 F7:={el,by omega};have ey:=(d8.but fa b7).trans (d8.same st);exact k _ (.send to sg F5 rk F6 F7) _ (KN aj (f5.keepI (((ez.trans eH).trans g).trans ey)) (f6.keepI (g.trans ey)) (f7.keepI (d8.same st))) ⟨to0,to1⟩ rfl (ax _) (eo.same st) ((((((z.trans b3).same s3).trans b4).trans b5).trans b6).trans b7 |>.same st)
end
structure Gro(bs qs:List Str)(m:Int)(dp S:Nat)(B G:Hp)(l0:aa)(i:Nat):Prop where
 ex:∃(xs:List V) (ds:Ds),G l0=some (.lst xs)/\xs.length<=i/\OwS bs qs B G ds xs/\ds.toOk m/\ds.deep<=dp/\ds.size<=i*S
theorem Gro.up{bs qs:List Str}{m:Int}{dp S:Nat}{B G:Hp}{Z:aa}{i:Nat}(h:Gro bs qs m dp S B G Z i):Gro bs qs m dp S B G Z (i+1):=by
 obtain⟨xs,ds,h1,h2,U,V,Y,W⟩:=h.ex;exact{xs,ds,h1,by omega,U,V,Y,dB W (sR _ (gm _))}
theorem Gro.keepI{bs qs:List Str}{m:Int}{dp S:Nat}{B G G':Hp}{Z:aa}{i:Nat}(h:Gro bs qs m dp S B G Z i)(k:d8 G G'):Gro bs qs m dp S B G' Z i:=by
 obtain⟨xs,ds,h1,h2,Y,U,W,V⟩:=h.ex;exact{xs,ds,k _ _ h1 Y.now.ni,h2,Y.keepI k,U,W,V}
theorem Gro.step{bs qs:List Str}{m:Int}{dp S:Nat}{B G W:Hp}{p U Z:aa}{i:Nat}{xs:List V}{ds:Ds}{v:V}{dd:Dd}(D:Z∉[p,U])(L:Lf G p U)(k:Kp [p,U] G W)(H:B Z≠none)(dm:Dm B G)(hx:G Z=some (.lst xs))(g:xs.length<=i)(O:OwS bs qs B G ds xs)(to:ds.toOk m)(d1:ds.deep<=dp)(sz:ds.size<=i*S)
  (I:OwD bs qs G W dd v) (t:dd.toOk m) (d2:dd.deep<=dp) (s2:dd.size<=S):Gro bs qs m dp S B (upd W Z (.lst (xs++[v]))) Z (i+1):=by
 have J:=k _ _ hx D;have ol:G Z≠none:=by
  rw[hx];intro z
  cases z
 have Y:∀ys,W Z≠some (.tup ys):=fun ys z=>by
  rw[J]at z
  cases z
 refine{xs++[v],qX ds dd,aj,by rw[ay];show xs.length+1<=i+1;omega,IH ((O.keepI (k.keepI L.int)).old H Y) ((I.old ol Y).base dm),D0 t ds to,by rw[yy];omega,?_};rw[yz,Ca];omega
theorem Lf.put{G:Hp}{p Z Y:aa}{o:HO}(L:Lf G p Z)(W:Y∉[p,Z]):Lf (upd G Y o) p Z:=by
 obtain⟨x,y,e⟩:=L.pu;obtain⟨z,V⟩:=L.hl;exact{{x,y,aW e (fun q=>W (by rw[<- q];exact aC))},z,aW V (fun q=>W (by rw[<- q];exact ak _ aC))}
theorem Lf.kp'{H G:Hp}{p Z:aa}(Y:Lf G p Z)(b:But p H G):Kp [p,Z] H G:=Kp.but b aC
structure Dr(H G:Hp)(p lf lt lb lq:aa)(bs qs:List Str):Prop where
 L:Lf G p lf
 T:Th G lt lb lq bs qs
 k:Kp [p,lf] H G
theorem Dr.but{H G G':Hp}{p Z lt lb lq:aa}{bs qs:List Str}(d:Dr H G p Z lt lb lq bs qs)(b:But p G G')(pu:dE G' p):Dr H G' p Z lt lb lq bs qs:={d.L.but b pu,d.T.keepI (d8.but d.L.pu b),d.k.trans (Kp.but b aC)}
theorem Dr.same{H G G':Hp}{p Z lt lb lq:aa}{bs qs:List Str}(d:Dr H G p Z lt lb lq bs qs)(s:bh G G'):Dr H G' p Z lt lb lq bs qs:={d.L.same s,d.T.keepI (d8.same s),d.k.trans (Kp.same s)}
theorem Dr.kp{H G G':Hp}{p Z lt lb lq:aa}{bs qs:List Str}(d:Dr H G p Z lt lb lq bs qs)(k:Kp [p,Z] G G')(L:Lf G' p Z):Dr H G' p Z lt lb lq bs qs:={L,d.T.keepI (k.keepI d.L.int),d.k.trans k}
theorem Dr.dm{H G:Hp}{p Z lt lb lq:aa}{bs qs:List Str}(d:Dr H G p Z lt lb lq bs qs):Dm H G:=d.k.dm d.L.there
section
variable{P:aM}{w:bO}{K:af}{mg:Str->Option ae}{base:cC}{f fD fW fF fSe fS fE:aa}{fd fdD fdW fdF fdSe fdS fdE:bX}{bs qs:List Str}
seal PS PSs PE PA PT PW PI PG PGs PC
abbrev nLd:List Str:=["_law_purse_here","_law_low","_law_left","_law_there","_law_many","_law_boxes","_law_queues","_law_pick","_law_queue","_law_formula_here","_law_ones"]
abbrev pLd:List Str:=["_law_purse_here","_law_low","_law_left","_law_there","_law_many"]
theorem Cb:bN nLd pLd (aL lV):={}
abbrev nLs:List Str:=["_law_purse_here","_law_low","_law_left","_law_there","_law_many","_law_found","_law_k"]
abbrev pLs:List Str:=["_law_purse_here","_law_low","_law_left","_law_there","_law_many"]
theorem OB:bN nLs pLs (aL jw):={}
inductive Md(bs qs:List Str)(n:Nat)(vs:List V)(H:Hp)(Q:VK)(_e:XK):Prop where
 |mk(p lt lb lq lf:aa)(m:Int)(d:Nat)(_:vs=[.ref p,.int d,.ref lf,.ref lt,.int m])(_:d<n)(_:Lf H p lf)(_:Th H lt lb lq bs qs)(_:0<m)(_:m<1000)(_:∀(v:V) (dd:Dd) (H':Hp),OwD bs qs H H' dd v->dd.toOk m->dd.deep<=d->dd.size<=ddz d->Lf H' p lf->Kp [p,lf] H H'->Q v H'):Md bs qs n vs H Q _e
def spLd(bs qs:List Str)(n:Nat):Sp:=fun vs H Q Z=>Md bs qs n vs H Q Z
inductive Me(bs qs:List Str)(n:Nat)(vs:List V)(H:Hp)(Q:VK)(_e:XK):Prop where
 |mk(p lt lb lq lf:aa)(m:Int)(d:Nat)(_:vs=[.ref p,.int d,.ref lf,.ref lt,.int m])(_:d<n)(_:Lf H p lf)(_:Th H lt lb lq bs qs)(_:0<m)(_:m<1000)(_:∀(l:aa) (xs:List V) (ds:Ds) (H':Hp),H l=none->H' l=some (.lst xs)->xs.length<1000->OwS bs qs H H' ds xs->ds.toOk m->ds.deep<=d->ds.size<=3*ddz d->Lf H' p lf->Kp [p,lf] H H'->Q (.ref l) H'):Me bs qs n vs H Q _e
def IQ(bs qs:List Str)(n:Nat):Sp:=fun vs H Q Z=>Me bs qs n vs H Q Z
theorem K3{n kk:Nat}(hk:5<=kk)(D:Df K mg "_law_deed" lV pLd f fd)(DS:Df K mg "_law_deeds" jw pLs fS fdS)(GS:bL P w K mg base CX0 kk fS fdS pLs (IQ bs qs n))(hL:Df K mg "_law_send" lU pSd fSe fdSe)(DF:Df K mg "_law_formula" gY pFo fF fdF)(Z:Df K mg "_law_draw" eC pD fD fdD)(DW:Df K mg "_law_worth" gb pW fW fdW)(B:Bl mg) :
  bL P w K mg base CX0 (kk+1) f fd pLd (spLd bs qs (n+1)):=by
 have GD:bL P w K mg base CX0 1 fD fdD pD jL:=jM Z;have GF:bL P w K mg base CX0 5 fF fdF pFo (IK bs qs 3):=IL DF Z DW B 3;have ha:bL P w K mg base CX0 5 fSe fdSe pSd (spSd bs qs):=ok_sd hL DF Z DW B;refine D.F.ok Cb (fun vs H Q E h=>?_) (fun ft A outer s H vs Q E hr h=>?_)
 ·obtain⟨p,lt,lb,lq,W,m,d,rfl,_⟩:=h;rfl
 obtain⟨p,lt,lb,lq,W,m,d,rfl,dn,L,T,m0,m1,k⟩:=h;have hg:=BF hr;have r1:cZ 1 _:=hr.mono (by omega);have r5:cZ 5 _:=hr.mono hk;refine⟨_,ah (ug (pv 3) (yL rfl (km (eA (i:=5) Cb.nd rfl (Or.inl rfl)) (km (eA (i:=6) Cb.nd rfl (Or.inl rfl)) vE))))
  (ah (bJ (i:=7) Cb.nd rfl (Or.inl rfl) (aI GD r1 (by rfl) Z.m Z.F.kp Z.b .nil bC (aR (pv 0) (dS av ag))))
  (ah (cH ((z7 (bQ rN (pv 7) av (cq _)) (wc ((jA (bQ rN (pv 7) av (cq _)) (iM (bQ (IM hg) (pv 5) (eU ag) (cq _)))).pt))).pt) (aA (bE (aI ha r5 (by rfl) hL.m hL.F.kp hL.b .nil bC (aR (pv 0) (aR (pv 3) (aR (pv 4) ag)))))) bP)
  (ah (cH (bQ rN (pv 7) av (cq _)) (aA (bE (dZ (dS bS (pI (bY dO (pv 5) (aI GD r1 (by rfl) Z.m Z.F.kp Z.b .nil bC (aR (pv 0) (iz (cb (eu K (by rfl)) (by rfl) B.len cu (aR (pv 5) ag)) ag))) (fun _ _=>rfl)) (iz (aI GF r5 (by rfl) DF.m DF.F.kp DF.b .nil bC (aR (pv 0) (dS av (aR (pv 5) (aR (pv 6) ag))))) ag)))))) bP)
  (ah (cH (bQ fc (pv 7) av (cq _)) (aA (bE (dZ (dS bS (pI (bY dO (pv 5) (aI GD r1 (by rfl) Z.m Z.F.kp Z.b .nil bC (aR (pv 0) (iz (cb (eu K (by rfl)) (by rfl) B.len cu (aR (pv 5) ag)) ag))) (fun _ _=>rfl)) (uL (dZ (dS bS (oR (cR gK av (aI GD r1 (by rfl) Z.m Z.F.kp Z.b .nil bC (aR (pv 0) (dS av ag)))) ag))) ag)))))) bP)
  (ah (cH ((jA (bQ fc (pv 7) av (cq _)) (jA (bQ (zg hg) (pv 6) (eU ag) (cq _)) (iM (bQ uS (pv 1) av (cq _))))).pt) (ah (bJ (i:=8) Cb.nd rfl (Or.inl rfl) (bY dO (pv 6) (aI GD r1 (by rfl) Z.m Z.F.kp Z.b .nil bC (aR (pv 0) (iz (cb (eu K (by rfl)) (by rfl) B.len cu (aR (pv 6) ag)) ag))) (fun _ _=>rfl)))
  (aA (bE (dZ (dS bS (aR (pv 8) (pI (bY dO (pv 5) (aI GD r1 (by rfl) Z.m Z.F.kp Z.b .nil bC (aR (pv 0) (iz (cb (eu K (by rfl)) (by rfl) B.len cu (aR (pv 5) ag)) ag))) (fun _ _=>rfl)) (iz (aI GS hr (by rfl) DS.m DS.F.kp DS.b .nil bC (aR (pv 0) (oR (cR jk (pv 1) av) (aR (pv 2) (aR (pv 3) (aR (pv 4) ag)))))) ag)))))))) bP)
  (ah (cH ((jA (bQ fc (pv 7) av (cq _)) (iM (bQ (zg hg) (pv 6) (eU ag) (cq _)))).pt) (aA (bE (dZ (dS bS (pI (bY dO (pv 6) (aI GD r1 (by rfl) Z.m Z.F.kp Z.b .nil bC (aR (pv 0) (iz (cb (eu K (by rfl)) (by rfl) B.len cu (aR (pv 6) ag)) ag))) (fun _ _=>rfl)) (iz (aI GF r5 (by rfl) DF.m DF.F.kp DF.b .nil bC (aR (pv 0) (dS av (aR (pv 5) (aR (pv 6) ag))))) ag)))))) bP)
  (ah (cH ((jA (bQ rN (pv 7) av (cq _)) (iM (bQ uS (pv 1) av (cq _)))).pt) (ah (bJ (i:=9) Cb.nd rfl (Or.inl rfl) (aI GF r5 (by rfl) DF.m DF.F.kp DF.b .nil bC (aR (pv 0) (dS av (aR (pv 5) (aR (pv 6) ag))))))
  (ah (bJ (i:=10) Cb.nd rfl (Or.inl rfl) (aI GS hr (by rfl) DS.m DS.F.kp DS.b .nil bC (aR (pv 0) (oR (cR jk (pv 1) av) (aR (pv 2) (aR (pv 3) (aR (pv 4) ag)))))))
  (aA (bE (dZ (dS bS (aR (pv 9) (aR (pv 10) (iz (aI GS hr (by rfl) DS.m DS.F.kp DS.b .nil bC (aR (pv 0) (oR (cR jk (pv 1) av) (aR (pv 2) (aR (pv 3) (aR (pv 4) ag)))))) ag))))))))) bP)
  (ah (cH ((jA (bQ fc (pv 7) av (cq _)) (iM (bQ fc (aI GD r1 (by rfl) Z.m Z.F.kp Z.b .nil bC (aR (pv 0) (dS av ag))) av (cq _)))).pt) (aA (bE (dZ (dS bS ag)))) bP)
  (aA (bE (aI ha r5 (by rfl) hL.m hL.F.kp hL.b .nil bC (aR (pv 0) (aR (pv 3) (aR (pv 4) ag)))))))))))))),?_⟩
 have big:=d9;have dz:=KQ d;have hA:=T.lb;have hn:=T.lq;refine bU (cO {_,rfl,lt,_,rfl,SqT.of T.ht,rfl,_,_,rfl,bK {_,_,rfl,bK {rfl,?_}}});dsimp only;refine bU (cO {_,rfl,p,12,rfl,L.pu,by decide,by decide,fun pk G fG fo hj bG=>bK ?_});dsimp only;have d0:Dr H H p W lt lb lq bs qs:={L,T,Kp.refl _ _};have dG:=d0.but bG hj
 -- a send
 have hz:∀{G:Hp},Dr H G p W lt lb lq bs qs->∀(v:V) (dd:Dd) (H':Hp),OwD bs qs G H' dd v->dd.toOk m->dd.deep=0->dd.size<=1->dE H' p->But p G H'->Q v H':=fun d1 v dd H' hO t e1 e2 gt b'=>k v dd H' (hO.base d1.dm) t (by omega) (by omega) (d1.L.but b' gt) (d1.k.trans (Kp.but b' aC));refine vC (fun U G=>U=[some (.ref p),some (.int d),some (.ref W),some (.ref lt),some (.int m),some (.ref lb),some (.ref lq),some (.int pk),none,none,none]/\(pk<8->0<bs.length)/\Dr H G p W lt lb lq bs qs) ?_ ?_
 rotate_left
 ·intro N g;refine fh {_,rfl,_,_,rfl,rfl,_,rfl,gC (fun _=>?_) (fun c4=>?_)}
  ·exact gG (eW {_,rfl,_,rfl,_,rfl,p,lt,lb,lq,m,rfl,hj,dG.T,m0,m1,hz dG})
  refine{_,rfl,_,_,rfl,rfl,_,rfl,gC (fun _=>?_) (fun c8=>eE (g _ _ {rfl,fun z=>absurd (decide_eq_true z) c8,dG}))};refine{_,rfl,by show 0<=aB;omega,fun e0 hH=>?_};have u0:=aE hH (.lst []);have d1:=dG.same u0;refine{lb,e0,_,rfl,rfl,d1.T.hb,aj,_,rfl,gC (fun _=>?_) (fun ne=>g _ _ {rfl,fun _=>?_,d1})}
  ·exact eW {_,rfl,_,rfl,_,rfl,p,lt,lb,lq,m,rfl,d1.L.pu,d1.T,m0,m1,hz d1}
  ·cases bs with
   |nil=>exact absurd rfl ne
   |cons y ys=>exact qL _
 rintro _ G1 ⟨rfl,c8,d1⟩;clear dG hj bG
 -- a box, drawn
 have bx:∀{G:Hp} {R:VK},pk<8->Dr H G p W lt lb lq bs qs->(∀(x:Str) (G':Hp),x∈bs->dE G' p->But p G G'->Dr H G' p W lt lb lq bs qs->R (.str x) G')->jL [V.ref p,V.int ((bs.map V.str).length:Int)] G (fun y H2=>Nn K (.ref lb) y H2 R) E0:=fun c d2 q=>by
  have l0:=c8 c;refine{p,_,rfl,d2.L.pu,by rw[au];omega,by rw[au];omega,fun r G2 r0 I J b2=>?_};rw[au]at I;obtain⟨x,hx,mx⟩:=kJ r0 I;have d3:=d2.but b2 J;exact{lb,_,_,_,rfl,rfl,SqL.of d3.T.hb,hx,q x G2 mx J b2 d3}
 refine bU (fh {_,rfl,_,_,rfl,rfl,_,rfl,gC (fun c6=>?_) (fun _=>?_)})
 ·have c6:pk<6:=of_decide_eq_true c6;refine eW {_,rfl,_,rfl,_,rfl,lb,_,rfl,.inl (SqL.of d1.T.hb),bx (by omega) d1 fun x G2 mx J b2 d2=>?_};refine{_,rfl,_,rfl,_,rfl,p,lb,lq,2,rfl,by decide,J,d2.T.hb,d2.T.hq,hA,hn,fun v F G3 hF dF hG b3=>{by show 3<=aB;omega,fun t ht=>?_}};have st:=aE ht (.tup [.str "put",.str x,v]);have d3:=(d2.but b3 hG).same st;have fI:FmI bs qs G3 v F:={hF,by omega};exact k _ (.put x F) _ (Ow aj mx (fI.keepI (d8.same st))) trivial (cm _) dz d3.L d3.k
 dsimp only[jq];refine bU (fh {_,rfl,rfl,_,rfl,gC (fun c6=>?_) (fun _=>?_)})
 ·have c6:pk=6:=V.int.inj (of_decide_eq_true c6);refine eW {_,rfl,_,rfl,_,rfl,lb,_,rfl,.inl (SqL.of d1.T.hb),bx (by omega) d1 fun x G2 mx J b2 d2=>?_};refine{_,rfl,p,20,rfl,J,by decide,by decide,fun a G3 a0 a1 hG b3=>{_,_,rfl,rfl,lt2,fun t1 gd=>{by show 3<=aB;omega,fun t ht=>?_}}};have s1:=aE gd (.tup [.str "number",.int (1+a)]);have st:=aE ht (.tup [.str "draw",.str x,.ref t1]);have d3:=((d2.but b3 hG).same s1).same st;exact k _ (.draw x (.num (1+a))) _ (KM aj mx {.num (st _ _ aj) (uO (by omega)),by show 1<=15;decide}) trivial (cm _) dz d3.L d3.k
 dsimp only[jq]
 -- pull
 refine vC (fun U G=>U=[some (.ref p),some (.int d),some (.ref W),some (.ref lt),some (.int m),some (.ref lb),some (.ref lq),some (.int pk),none,none,none]/\Dr H G p W lt lb lq bs qs) ?_ ?_
 rotate_left
 ·intro N g;refine fh {_,rfl,rfl,_,rfl,gC (fun c7=>?_) (fun _=>eE (g _ _ ⟨rfl,d1⟩))};have c7:pk=7:=V.int.inj (of_decide_eq_true c7);refine{_,rfl,by show 0<=aB;omega,fun e0 hH=>?_};have u0:=aE hH (.lst []);have d2:=d1.same u0;refine{lq,e0,_,rfl,rfl,d2.T.hq,aj,_,rfl,gC (fun ne=>?_) (fun _=>eE (g _ _ ⟨rfl,d2⟩))};refine{_,rfl,_,_,rfl,rfl,_,rfl,gC (fun cd=>?_) (fun _=>g _ _ ⟨rfl,d2⟩)};have cd:(d:Int)>0:=of_decide_eq_true cd;obtain⟨e,rfl⟩:∃e,d=e+1:={d-1,by omega};have he:((e+1:Nat):Int)-1=(e:Int):=by omega
  have l0:=rE ne;rw[au]at l0;refine bU (cO {_,rfl,_,rfl,_,rfl,lq,_,rfl,.inl (SqL.of d2.T.hq),p,_,rfl,d2.L.pu,by rw[au];omega,by rw[au];omega,fun r G2 r0 I J b2=>?_});rw[au]at I;obtain⟨y,hy,my⟩:=kJ r0 I;have d3:=d2.but b2 J;refine{lq,_,_,_,rfl,rfl,SqL.of d3.T.hq,hy,bK ?_};dsimp only;refine eW {_,rfl,_,rfl,_,rfl,_,rfl,lb,_,rfl,.inl (SqL.of d3.T.hb),bx (by omega) d3 fun x G3 mx hG b3 Y=>?_};refine{_,rfl,_,rfl,_,_,rfl,rfl,_,rfl,_,rfl,_,rfl,p,lt,lb,lq,W,m,e,(by show [V.ref p,V.int (((e+1:Nat):Int)-1),V.ref W,V.ref lt,V.int m]=_;rw[he]),by omega,Y.L,Y.T,m0,m1,fun l1 gr hK G4 hf h1 hI O1 t1 gw ge L4 k4=>{by show 4<=aB;omega,fun t ht=>?_}};have st:=aE ht (.tup [.str "pull",.str y,.str x,.ref l1]);have O:=(Y.kp k4 L4).same st;refine k _ (.pull y x hK) _ (KO aj my mx (Y.dm l1 hf) (st _ _ h1) hI ((O1.base Y.dm).keepI (d8.same st))) t1 ?_ ?_ O.L O.k
  ·show hK.deep+1<=e+1;omega
  ·show hK.size+1<=1+6*ddz e;omega
 rintro _ G2 ⟨rfl,d2⟩;clear d1
 -- push
 refine vC (fun U G=>U=[some (.ref p),some (.int d),some (.ref W),some (.ref lt),some (.int m),some (.ref lb),some (.ref lq),some (.int pk),none,none,none]/\Dr H G p W lt lb lq bs qs) ?_ ?_
 rotate_left
 ·intro N g;refine fh {_,rfl,rfl,_,rfl,gC (fun c7=>?_) (fun _=>eE (g _ _ ⟨rfl,d2⟩))};refine{_,rfl,by show 0<=aB;omega,fun e0 hH=>?_};have u0:=aE hH (.lst []);have d3:=d2.same u0;refine{lq,e0,_,rfl,rfl,d3.T.hq,aj,_,rfl,gC (fun ne=>?_) (fun _=>g _ _ ⟨rfl,d3⟩)};have l0:=rE ne;rw[au]at l0;refine eW {_,rfl,_,rfl,_,rfl,lq,_,rfl,.inl (SqL.of d3.T.hq),p,_,rfl,d3.L.pu,by rw[au];omega,by rw[au];omega,fun r G4 r0 I hE b4=>?_};rw[au]at I;obtain⟨y,hy,my⟩:=kJ r0 I;have Y:=d3.but b4 hE;refine{lq,_,_,_,rfl,rfl,SqL.of Y.T.hq,hy,?_};refine{_,rfl,_,rfl,_,rfl,p,lb,lq,1,rfl,by decide,hE,Y.T.hb,Y.T.hq,hA,hn,fun v F G5 hF dF hD b5=>{by show 3<=aB;omega,fun t ht=>?_}};have st:=aE ht (.tup [.str "push",.str y,v]);have O:=(Y.but b5 hD).same st;have fI:FmI bs qs G5 v F:={hF,by omega};exact k _ (.push y F) _ (KL aj my (fI.keepI (d8.same st))) trivial (cm _) dz O.L O.k
 rintro _ G3 ⟨rfl,d3⟩;clear d2
 -- if
 refine vC (fun U G=>U=[some (.ref p),some (.int d),some (.ref W),some (.ref lt),some (.int m),some (.ref lb),some (.ref lq),some (.int pk),none,none,none]/\Dr H G p W lt lb lq bs qs) ?_ ?_
 rotate_left
 ·intro N g;refine fh {_,rfl,_,_,rfl,rfl,_,rfl,gC (fun c7=>?_) (fun _=>eE (g _ _ ⟨rfl,d3⟩))};refine{_,rfl,_,_,rfl,rfl,_,rfl,gC (fun cd=>?_) (fun _=>g _ _ ⟨rfl,d3⟩)};have cd:(d:Int)>0:=of_decide_eq_true cd;obtain⟨e,rfl⟩:∃e,d=e+1:={d-1,by omega};have he:((e+1:Nat):Int)-1=(e:Int):=by omega
  have ev:[V.ref p,V.int (((e+1:Nat):Int)-1),V.ref W,V.ref lt,V.int m]=[V.ref p,.int e,.ref W,.ref lt,.int m]:=by rw[he]
  refine bU (cO {_,rfl,_,rfl,_,rfl,p,lb,lq,2,rfl,by decide,d3.L.pu,d3.T.hb,d3.T.hq,hA,hn,fun vf F G4 hF dF hE b4=>bK ?_});dsimp only;have Y:=d3.but b4 hE;have fI:FmI bs qs G4 vf F:={hF,by omega};refine bU (cO {_,rfl,_,rfl,_,_,rfl,rfl,_,rfl,_,rfl,_,rfl,p,lt,lb,lq,W,m,e,ev,by omega,Y.L,Y.T,m0,m1,fun l1 gr hK G5 hf h1 hI O1 t1 gw ge L5 k5=>bK ?_});dsimp only;have O:=Y.kp k5 L5;refine eW {_,rfl,_,rfl,_,rfl,_,rfl,_,_,rfl,rfl,_,rfl,_,rfl,_,rfl,p,lt,lb,lq,W,m,e,ev,by omega,O.L,O.T,m0,m1,fun l2 fy hC G6 gl h2 gM O2 t2 fz fx L6 k6=>{by show 4<=aB;omega,fun t ht=>?_}};have st:=aE ht (.tup [.str "if",vf,.ref l1,.ref l2]);have gq:=k5.keepI Y.L.int;have hB:=k6.keepI O.L.int;have d6:=(O.kp k6 L6).same st;refine k _ (.ife F hK hC) _ (Oy aj (fI.keepI ((gq.trans hB).trans (d8.same st))) (Y.dm l1 hf) (st _ _ (hB _ _ h1 O1.now.ni)) hI ((O1.base Y.dm).keepI (hB.trans (d8.same st))) (O.dm l2 gl) (st _ _ h2) gM ((O2.base O.dm).keepI (d8.same st))) ⟨t1,t2⟩ ?_ ?_ d6.L d6.k
  ·show max hK.deep hC.deep+1<=e+1;omega
  ·show hK.size+hC.size+1<=1+6*ddz e;omega
 rintro _ G4 ⟨rfl,Y⟩;clear d3
 -- end
 refine vC (fun U G=>U=[some (.ref p),some (.int d),some (.ref W),some (.ref lt),some (.int m),some (.ref lb),some (.ref lq),some (.int pk),none,none,none]/\Dr H G p W lt lb lq bs qs) ?_ ?_
 rotate_left
 ·intro N g;refine fh {_,rfl,rfl,_,rfl,gC (fun c7=>?_) (fun _=>eE (g _ _ ⟨rfl,Y⟩))};refine{_,rfl,p,4,rfl,Y.L.pu,by decide,by decide,fun r G5 r0 r4 hD b5=>{rfl,_,rfl,gC (fun _=>?_) (fun _=>g _ _ {rfl,Y.but b5 hD})}};refine eW {B3,fun t ht=>?_};have st:=aE ht (.tup [.str "end"]);have O:=(Y.but b5 hD).same st;exact k _ .fin _ (Ox aj) trivial (cm _) dz O.L O.k
 rintro _ G5 ⟨rfl,O⟩;exact eW {_,rfl,_,rfl,_,rfl,p,lt,lb,lq,m,rfl,O.L.pu,O.T,m0,m1,hz O}
theorem K4{n kk:Nat}(hk:1<=kk)(D:Df K mg "_law_deeds" jw pLs f fd)(DE:Df K mg "_law_deed" lV pLd fE fdE)(GE:bL P w K mg base CX0 kk fE fdE pLd (spLd bs qs n))(DD:Df K mg "_law_draw" eC pD fD fdD)(B:Bl mg) :
  bL P w K mg base CX0 (kk+1) f fd pLs (IQ bs qs n):=by
 have GD:bL P w K mg base CX0 1 fD fdD pD jL:=jM DD;refine D.F.ok OB (fun vs H Q E h=>?_) (fun dz A outer s H vs Q E hr h=>?_)
 ·obtain⟨p,lt,lb,lq,Z,m,d,rfl,_⟩:=h;rfl
 obtain⟨p,lt,lb,lq,Z,m,d,rfl,dn,L,T,m0,m1,k⟩:=h;have r1:cZ 1 _:=hr.mono hk;refine⟨_,ah (bJ (i:=5) OB.nd rfl (Or.inl rfl) (eU ag))
  (ah (jX dC rfl (jr (by rfl) B.range (iz (aI GD r1 (by rfl) DD.m DD.F.kp DD.b .nil bC (aR (pv 0) (dS av ag))) ag)) (eA (i:=6) OB.nd rfl (Or.inl rfl)) (aA (cH (bQ uS (bY dO (pv 2) av (fun _ _=>rfl)) av (cq _)) (ah (ug (cR jk (bY dO (pv 2) av (fun _ _=>rfl)) av) (yM (pv 2) av tw))
  (aA (e7 (pT cF dJ dM iO (pv 5) (iz (aI GE hr (by rfl) DE.m DE.F.kp DE.b .nil bC (aR (pv 0) (aR (pv 1) (aR (pv 2) (aR (pv 3) (aR (pv 4) ag)))))) ag))))) bP)))
  (aA (bE (pv 5)))),?_⟩
 have big:=d9;have mf:Z∈[p,Z]:=ak _ aC;refine bU (cO {cm _,fun Y O=>bK ?_});have s0:=aE O (.lst []);dsimp only;have n0:Y∉[p,Z]:=fun z=>by
  obtain⟨i,r,e⟩:=L.int Y z;rw[O]at e
  cases e
 have hB:upd H Y (.lst []) Y≠none:=by
  rw[aj];intro z
  cases z
 refine bU {_,rfl,p,4,rfl,L.pu.same s0,by decide,by decide,fun r G r0 dG dV bG=>{r,rfl,by omega,by omega,?_}};have LG:=(L.same s0).but bG dV;have kG:Kp [p,Z] H G:=(Kp.same s0).trans (LG.kp' bG);have kB:Kp [p,Z] (upd H Y (.lst [])) G:=LG.kp' bG;have ec:G Y=some (.lst []):=bG _ _ aj (fun z=>n0 (by rw[z];exact aC));refine qZ (n:=r.toNat) (fun i σ G'=>∃(v6:Option V),σ=[some (.ref p),some (.int d),some (.ref Z),some (.ref lt),some (.int m),some (.ref Y),v6]/\i<=3/\Gro bs qs m d (ddz d) (upd H Y (.lst [])) G' Y i/\Lf G' p Z/\Kp [p,Z] H G'/\Dm (upd H Y (.lst [])) G')
  {_,rfl,by decide,{[],.nil,ec,ax _,KP,trivial,cm _,cm _},LG,kG,kB.dm LG.there} ?_ ?_
 ·rintro i σ G1 hi ⟨v6,rfl,i2,gr,L1,k1,I⟩;obtain⟨c0,hc⟩:=L1.hl;refine fh ?_;refine{_,rfl,Z,_,_,_,rfl,rfl,SqL.of hc,rfl,_,_,rfl,rfl,_,rfl,?_};refine gC (fun _=>?_) (fun _=>?_)
  ·refine bU (cO {_,rfl,Z,_,_,_,rfl,rfl,SqL.of hc,rfl,_,_,rfl,rfl,_,rfl,Z,_,_,0,rfl,rfl,hc,rfl,?_});dsimp only;have W:Lf (upd G1 Z (.lst ([V.int c0].set 0 (.int (c0-1))))) p Z:={uN L1.pu L1.ne,c0-1,aj};have k2:Kp [p,Z] G1 (upd G1 Z (.lst ([V.int c0].set 0 (.int (c0-1))))):=Kp.upd mf;have g:=gr.keepI (k2.keepI L1.int);have J:=I.trans (k2.dm W.there);have k2:=k1.trans k2;revert J g k2 W;generalize upd G1 Z (.lst ([V.int c0].set 0 (.int (c0-1))))=G2;intro W g J k2;obtain⟨xs,ds,h1,h2,h3,h4,h5,h6⟩:=g.ex;have T2:=T.keepI (k2.keepI L.int);refine{_,rfl,.inl {rfl,_,SqL.of h1},_,rfl,_,rfl,_,rfl,_,rfl,_,rfl,p,lt,lb,lq,Z,m,d,rfl,dn,W,T2,m0,m1,fun v dd G3 hO t dL ea L3 U=>?_};refine{Y,xs,v,rfl,rfl,U _ _ h1 n0,by omega,?_};refine{_,rfl,by omega,Gro.step n0 W U hB J h1 h2 h3 h4 h5 h6 hO t dL ea,L3.put n0,fun b o eb nb=>aW ((k2.trans U) b o eb nb) (aw eb O),fun a na=>?_}
   by_cases ca:a=Y
   ·rw[ca,aj]at na
    cases na
   ·rw[aN ca]at na;exact J a (U.dm L3.there a na)
  ·exact{_,rfl,by omega,gr.up,L1,k1,I}
 ·rintro σ G1 ⟨v6,rfl,i2,gr,L1,k1,I⟩;obtain⟨xs,ds,h1,h2,h3,h4,h5,h6⟩:=gr.ex;dsimp only;refine eW {_,rfl,k Y xs ds G1 O h1 (by omega) (h3.base (Dm.same s0)) h4 h5 ?_ L1 k1};have:r.toNat*ddz d<=3*ddz d:=sR _ i2;omega
theorem Mf(D:Df K mg "_law_deeds" jw pLs f fd)(W:Df K mg "_law_deed" lV pLd fE fdE)(Z:Df K mg "_law_send" lU pSd fSe fdSe)(U:Df K mg "_law_formula" gY pFo fF fdF)(Y:Df K mg "_law_draw" eC pD fD fdD)(V:Df K mg "_law_worth" gb pW fW fdW)(B:Bl mg):∀n:Nat,bL P w K mg base CX0 (5+2*n) f fd pLs (IQ bs qs n)
 |0=>⟨fun vs H Q E h=>by
   obtain⟨p,lt,lb,lq,O,m,d,_,h,_⟩:=h;omega,fun A outer s H args us vs Q E _ _ _ _ h=>by
   obtain⟨p,lt,lb,lq,O,m,d,_,h,_⟩:=h;omega⟩
 |n+1=>K4 (kk:=5+2*n+1) (by omega) D W (K3 (by omega) W D (Mf D W Z U Y V B n) Z U Y V B) Y B
end
theorem MIn.but{m:Int}{H H' H1:Hp}{p:aa}{v:V}{M:MD}(Z:dE H p)(pu:dE H' p)(b:But p H' H1)(h:MIn m H H' v M):MIn m H H1 v M:=by
 obtain⟨t,e,h⟩:=h;exact{t,e,h.but Z pu b}
theorem MIn.old{m:Int}{B G:Hp}{a:aa}{o:HO}{v:V}{M:MD}(ol:B a≠none)(nt:∀xs,G a≠some (.tup xs))(h:MIn m B G v M):MIn m B (upd G a o) v M:=by
 obtain⟨t,e,⟨bl,ql,dl,hl,O,hv,h1,h2,I,U,Y,W,J,n1,n2,n3,Z⟩,kb,nb,nq,lb,lq,ld,lh,wb,hk⟩:=h;have ne:∀{b:aa},B b=none->b≠a:=fun n z=>ol (z ▸ n);have tk:∀(b:aa) (xs:List V),G b=some (.tup xs)->upd G a o b=some (.tup xs):=fun b xs e=>aW e fun z=>nt xs (z ▸ e);exact{t,e,{bl,ql,dl,hl,O,hv,tk _ _ h1,aW h2 (ne n1),gU.tups tk I,aW U (ne n2),aW Y (ne n3),aW W (ne Z),Paired.mono (fun _ _ z=>z.old ol nt) J,n1,n2,n3,Z},kb,nb,nq,lb,lq,ld,lh,wb,hk}
theorem zC{bs:List Str}{i:Nat}{x:V}(hi:(bs.map V.str)[i]?=some x):∃o,bs[i]?=some o/\x=.str o:=by
 rw[cQ]at hi;obtain⟨o,ho,rfl⟩:=jO.mp hi;exact⟨o,ho,rfl⟩
section
variable{P:aM}{w:bO}{K:af}{mg:Str->Option ae}{base:cC}{f fD fW fN fS:aa}{fd fdD fdW fdN fdS:bX}
seal PS PSs PE PA PT PW PI PG PGs PC
abbrev nMs:List Str:=["_law_purse_here","_law_many","_law_found","_law_name_here","_law_boxes","_law_queues","_law_draws","_law_hears","_law_sign_here"]
abbrev pMs:List Str:=["_law_purse_here"]
theorem zD:bN nMs pMs (aL ia):={}
theorem ndMs:((["_law_k"]:List Str)++nMs).Nodup:=by decide +kernel
theorem ndMs2:((["_law_box"]:List Str)++nMs).Nodup:=by decide +kernel
inductive Mg(vs:List V)(H:Hp)(Q:VK)(_e:XK):Prop where
 |mk(p:aa)(_:vs=[.ref p])(_:dE H p)(_:∀(ml:aa) (xs:List V) (Ms:List MD) (H':Hp),H' ml=some (.lst xs)->aK (MIn Ms.length H H') xs Ms->0<Ms.length->Ms.length<=6->ml≠p->dE H' p->But p H H'->Q (.ref ml) H'):Mg vs H Q _e
def spMs:Sp:=fun vs H Q Z=>Mg vs H Q Z
theorem ok_ms(D:Df K mg "_law_machines" ia pMs f fd)(DN:Df K mg "_law_names" kD pN fN fdN)(na:bL P w K mg base CX0 3 fN fdN pN Eb)(DS:Df K mg "_law_deeds" jw pLs fS fdS)(lp:∀bs qs,bL P w K mg base CX0 13 fS fdS pLs (IQ bs qs 4))(Z:Df K mg "_law_draw" eC pD fD fdD)(DW:Df K mg "_law_worth" gb pW fW fdW)(B:Bl mg):bL P w K mg base CX0 14 f fd pMs spMs:=by
 have GD:bL P w K mg base CX0 1 fD fdD pD jL:=jM Z;have GW:bL P w K mg base CX0 2 fW fdW pW vV:=xo DW Z B;have GS:=bL.some (ι:=List Str×List Str) (sp:=fun q=>IQ q.1 q.2 4) (F:=fun q=>lp q.1 q.2);refine D.F.ok zD (fun vs H Q E h=>?_) (fun hI A outer s H vs Q E hr h=>?_)
 ·obtain⟨p,rfl,_⟩:=h;rfl
 obtain⟨p,rfl,pu,k⟩:=h;have r1:cZ 1 _:=hr.mono (by decide);have r2:cZ 2 _:=hr.mono (by decide);have r3:cZ 3 _:=hr.mono (by decide);have ih:cZ 13 _:=hr;refine⟨_,ah (bJ (i:=1) zD.nd rfl (Or.inl rfl) (cR gK av (aI GD r1 (by rfl) Z.m Z.F.kp Z.b .nil bC (aR (pv 0) (pI (bY dO (eU (dS av (dS av ag))) (hZ q8 (by rfl) B.int boot_int (aq (oW fc (aI GD r1 (by rfl) Z.m Z.F.kp Z.b .nil bC (aR (pv 0) (dS av ag))) av (cq _)) ag)) (fun _ _=>rfl)) ag)))))
  (ah (bJ (i:=2) zD.nd rfl (Or.inl rfl) (eU ag))
  (ah (jX dC rfl (jB (aI na r3 (by rfl) DN.m DN.F.kp DN.b .nil bC (aR (pv 0) (aR (pv 1) (dS av ag))))) (eA (i:=3) zD.nd rfl (Or.inl rfl)) (ah (bJ (i:=4) zD.nd rfl (Or.inl rfl) (aI na r3 (by rfl) DN.m DN.F.kp DN.b .nil bC (aR (pv 0) (iz (aI GD r1 (by rfl) Z.m Z.F.kp Z.b .nil bC (aR (pv 0) (dS av ag))) (dS av ag)))))
  (ah (bJ (i:=5) zD.nd rfl (Or.inl rfl) (aI na r3 (by rfl) DN.m DN.F.kp DN.b .nil bC (aR (pv 0) (iz (aI GD r1 (by rfl) Z.m Z.F.kp Z.b .nil bC (aR (pv 0) (dS av ag))) (dS av ag)))))
  (ah (CT (i:=6) ["_law_k"] (iX.open (NN:=nMs) (N:=nMs) (sc:=aL ia) rfl rfl (by decide +kernel) rfl (by decide +kernel) (by decide +kernel) rfl (by decide +kernel)) rfl zD.nd rfl (Or.inl rfl) (jr (by rfl) B.range (iz (aI GD r1 (by rfl) Z.m Z.F.kp Z.b .nil bC (aR (pv 0) (dS av ag))) ag)) (fun _ _ _ _=>eA (i:=0) ndMs rfl (Or.inl rfl)) (fun _ _ _ _=>lu) (fun _ _ _ _=>aI GD r1 (by rfl) Z.m Z.F.kp Z.b .nil bC (aR (pv 1) (dS av ag))))
  (ah (bJ (i:=7) zD.nd rfl (Or.inl rfl) (eU ag))
  (ah (jX dC rfl (jB (om tD (eU (dS bS (dS bS (dS bS ag)))) rg (rh (cR gK av (aI GD r1 (by rfl) Z.m Z.F.kp Z.b .nil bC (aR (pv 0) (dS av ag))))))) (eA (i:=8) zD.nd rfl (Or.inl rfl)) (aA (e7 (pT cF dJ dM iO (pv 7) (uL (dZ (aR (pv 8) (iz (aI GS ih (by rfl) DS.m DS.F.kp DS.b .nil bC (aR (pv 0) (dS av (Ov (eU (dS av ag)) (uL (dZ (aR (pv 4) (aR (pv 5) ag))) (aR (pv 1) ag)))))) ag))) ag) (hs:=AN)))))
  (aA (e7 (pT cF dJ dM iO (pv 2) (uL (dZ (aR (pv 3) (aq (o7 ["_law_box"] (iX.open (NN:=nMs) (N:=nMs) (sc:=aL ia) rfl rfl (by decide +kernel) rfl (by decide +kernel) (by decide +kernel) rfl (by decide +kernel)) rfl (jB (pv 4)) (fun _ _ _ _=>eA (i:=0) ndMs2 rfl (Or.inl rfl)) (fun _ _ _ _=>lu) (fun _ _ _ _=>dZ (aR (pv 0) (iz (aI GW r2 (by rfl) DW.m DW.F.kp DW.b .nil bC (aR (pv 1) ag)) ag)))) (aR (pv 5) (aR (pv 6) (aR (pv 7) ag)))))) ag) (hs:=AN))))))))))
  (aA (bE (pv 2))))),?_⟩
 have big:=d9;refine bU (cO {_,rfl,lt2,fun l0 oe=>?_});have s0:=aE oe (.lst [.int 4,.int 6]);refine{_,rfl,p,8,rfl,pu.same s0,by decide,by decide,fun r G r0 r8 J bG=>{rfl,.inr {_,rfl,l0,_,_,_,rfl,rfl,SqL.of (bG _ _ aj (sQ pu oe)),zB,?_}}};obtain⟨mm,em,hT⟩:∃m:Int,(if decide (V.int r=V.int 7)=true then V.int 6 else V.int 4)=.int m/\(0<m/\m<=6):=by
  by_cases c:V.int r=V.int 7
  ·rw[decide_eq_true c];exact{6,rfl,by decide}
  ·rw[decide_eq_false c];exact{4,rfl,by decide}
 rw[em];refine{p,mm,rfl,J,hT.1,by omega,fun x G1 x0 x1 no b1=>{_,_,rfl,rfl,bK ?_}};obtain⟨m,hm,m0,m6⟩:∃m:Nat,1+x=(m:Int)/\0<m/\m<=6:={(1+x).toNat,by omega,by omega,by omega};dsimp only;rw[hm];have b1:But p H G1:=((But.same (But.refl p H) s0).trans bG).trans b1;clear bG J s0 oe;refine bU (cO {cm _,fun fl mW=>bK ?_});have sf:=aE mW (.lst []);dsimp only;have px:=no.same sf;have b2:=b1.same sf;have pk:upd G1 fl (.lst []) fl=some (.lst []):=aj;have py:fl≠p:=sQ no mW;have la:H fl=none:=b1.dm no fl mW;revert px b2 pk;generalize upd G1 fl (.lst [])=G2;intro px b2 pk;have mv:G2 fl≠none:=fun z=>by
  rw[pk]at z
  cases z
 refine bU {_,rfl,_,rfl,p,m,0,rfl,px,by omega,by omega,fun ln ss G3 ke qf mq nd mu b3=>{ln,rfl,{_,SqL.of qf},?_}};have ix:ln≠p:=tW mu qf;have iv:ln≠fl:=fun z=>mv (z ▸ ke);refine ko (K:=K) (a:=ln) (xs:=ss.map V.str) (fun i σ G=>∃(u3 u4 u5 u6 u7 u8:Option V) (xs:List V) (Ms:List MD),σ=[some (.ref p),some (.int m),some (.ref fl),u3,u4,u5,u6,u7,u8]/\G ln=some (.lst (ss.map V.str))/\G fl=some (.lst xs)/\aK (MIn m G2 G) xs Ms/\Ms.length=i/\dE G p/\Kp [p,fl] G2 G)
  {_,_,_,_,_,_,[],[],rfl,qf,b3 _ _ pk py,.nil,rfl,mu,Kp.but b3 aC} ?_ ?_ ?_
 ·rintro i σ G _ ⟨_,_,_,_,_,_,_,_,rfl,h,_⟩;exact SqL.of h
 ·rintro i v σ G hi ⟨u3,u4,u5,u6,u7,u8,xs,Ms,rfl,hG,pp,pM,lM,J,kG⟩;obtain⟨nm,kv,rfl⟩:=zC hi;have il:=(aG.mp kv).1;refine bK ?_;dsimp only
  -- the boxes' names, the queues
  refine bU (cO {_,rfl,_,rfl,p,4,rfl,J,by decide,by decide,fun r Ga r0 r4 pb ba=>?_});obtain⟨r,rfl⟩:∃n:Nat,r=(n:Int):={r.toNat,by omega};refine{p,r,0,rfl,pb,by omega,by omega,fun lb bs Gb hO oD hP kw mx bb=>bK ?_};dsimp only;have kn:But p G Gb:=ba.trans bb;have g:lb≠p:=tW mx oD;refine bU (cO {_,rfl,_,rfl,p,3,rfl,mx,by decide,by decide,fun r' Gc hN hF oc bc=>?_});obtain⟨r',rfl⟩:∃n:Nat,r'=(n:Int):={r'.toNat,by omega};refine{p,r',8,rfl,oc,by omega,by omega,fun lq qs Gd hX rx hL lk rb bd=>bK ?_};dsimp only;have ls:But p G Gc:=kn.trans bc;have ph:But p G Gd:=ls.trans bd;have pr:lq≠p:=tW rb rx;have lj:G lq=none:=ls.dm oc lq hX;have ra:=bd _ _ (bc _ _ oD g) g;clear ba bb bc bd pb mx oc
  -- the draws
  refine bU (cO ?_);refine uM (fun n G'=>n<4/\dE G' p/\But p Gd G') (fun R hR=>⟨_,rfl,p,4,rfl,rb,by decide,by decide,fun x G' x0 x1 pu b=>by
    obtain⟨n,rfl⟩:∃n:Nat,x=(n:Int):={x.toNat,by omega};exact hR n G' {by omega,pu,b}⟩) (fun n G' h=>by have:=h.1;omega) (fun n _ i ys G'=>∃ds:List Int,ys=ds.map V.int/\ds.length=i/\dE G' p/\But p Gd G') (fun n G' h=>{[],rfl,rfl,h.2.1,h.2.2}) ?_ ?_ ?_
  ·rintro n G0 h i ys G' hi ⟨ds,rfl,h1,_⟩;rw[au];have:=h.1;omega
  ·rintro n G0 h i ys G' hi ⟨ds,rfl,h1,pu,b⟩;refine{rfl,?_};unfold xJ;refine gG ?_;refine{_,rfl,p,100,rfl,pu,by decide,by decide,fun x Ga x0 x1 pb ba=>?_};exact{ds++[x],by rw[cw];rfl,by rw[ay,h1];rfl,pb,b.trans ba}
  rintro n G0 hn ys Ge ⟨ds,rfl,hK,rm,be⟩ dl hdl;have ld:ds.length<=100:=by have:=hn.1;omega
  have rf:=aE hdl (.lst (ds.map V.int));refine bK ?_;dsimp only;have kc:G dl=none:=ph.dm rb dl (be.dm rm dl hdl);have md:dl≠p:=sQ rm hdl
  -- what it hears
  refine bU (cO {cm _,fun hl O=>bK ?_});have nf:=aE O (.lst []);have sD:=rf.trans nf;dsimp only;have mt:G hl=none:=ph.dm rb hl (be.dm rm hl (none_of rf O));have pR:=rm.same sD;have bF:But p G (upd (upd Ge dl (.lst (ds.map V.int))) hl (.lst [])):=(ph.trans be).same sD;have ro:=sD _ _ (be _ _ ra g);have ry:=sD _ _ (be _ _ rx pr);have pm:=nf _ _ (kS hdl (.lst (ds.map V.int)));have I:=kS O (.lst []);have pw:hl≠p:=sQ (rm.same rf) O;have nh:lb≠hl/\lq≠hl/\dl≠hl:={aw (rf _ _ (be _ _ ra g)) O,aw (rf _ _ (be _ _ rx pr)) O,aw (kS hdl _) O};revert pR bF ro ry pm I;clear sD nf rf hdl O be rm ra rx ph rb hn;generalize upd (upd Ge dl (.lst (ds.map V.int))) hl (.lst [])=GF;intro pR bF ro ry pm I;have ly:GF hl≠none:=fun z=>by
   rw[I]at z
   cases z
  -- its signs
  refine bU {by show 3<=aB;omega,fun l3 mE=>?_};have s3:=aE mE (.lst [.str "go",.str "on",.str "stop"]);refine{_,rfl,p,3,rfl,pR.same s3,by decide,by decide,fun r Gg r0 r3 nT bg=>{_,_,rfl,rfl,_,rfl,l3,_,rfl,SqL.of (bg _ _ aj (sQ pR mE)),fun sl qt=>?_}};obtain⟨zs,lz,eq⟩:∃zs:List Str,zs.length<=3/\nF [V.str "go",.str "on",.str "stop"] none (some (1+r))=zs.map V.str:=by
   have cs:r=0\/r=1\/r=2:=by omega
   rcases cs with rfl|rfl|rfl
   ·exact{["go"],by decide,rfl}
   ·exact{["go","on"],by decide,rfl}
   ·exact{["go","on","stop"],by decide,rfl}
  rw[eq];have pa:=aE qt (.lst (zs.map V.str));have pi:=((But.refl p GF).same s3).trans bg;have js:sl≠p:=sQ nT qt;have ka:sl≠hl:=(aw (pi _ _ I pw) qt).symm;have nz:=nT.same pa;have kI:Kp [p,hl] GF (upd Gg sl (.lst (zs.map V.str))):=(Kp.but (pi) aC).trans (Kp.same pa);have qb:=pa _ _ (pi _ _ I pw);have rr:=kS qt (.lst (zs.map V.str));revert nz kI qb rr;clear pa qt eq pi bg nT s3 mE;generalize upd Gg sl (.lst (zs.map V.str))=GI;intro nz kI qb rr;have rc:∀{a:aa},a≠p->a≠hl->a∉[p,hl]:=fun n1 n2 z=>by
   simp only[ar,aV,or_false]at z;exact z.elim n1 n2
  have lr:∀{G':Hp},dE G' p->(∃o,G' hl=some o)->∀a∈[p,hl],∃o,G' a=some o:=fun pu h a z=>by
   simp only[ar,aV,or_false]at z
   rcases z with rfl|rfl
   ·obtain⟨x,y,e⟩:=pu;exact{_,e}
   ·exact h
  refine{sl,rfl,{_,SqL.of rr},?_};refine ko (K:=K) (a:=sl) (xs:=zs.map V.str) (fun j σ G'=>∃(u8:Option V) (hv:List V) (hs:List (Str×Ds)),σ=[some (.ref p),some (.int m),some (.ref fl),some (.str nm),some (.ref lb),some (.ref lq),some (.ref dl),some (.ref hl),u8]/\G' sl=some (.lst (zs.map V.str))/\G' hl=some (.lst hv)/\aK (HsO bs qs GF G') hv hs/\hs.length=j/\(∀q∈hs,q.2.toOk m/\q.2.deep<=4/\q.2.size<=3*ddz 4)/\dE G' p/\Kp [p,hl] GF G')
   {_,[],[],rfl,rr,qb,.nil,rfl,(fun q hq=>by cases hq),nz,kI} ?_ ?_ ?_
  ·rintro j σ G' _ ⟨_,_,_,rfl,h,_⟩;exact SqL.of h
  ·rintro j v σ G' hj ⟨u8,hv,hs,rfl,oT,U,pe,mz,my,Y,W⟩;obtain⟨sg,kh,rfl⟩:=zC hj;have jl:=(aG.mp kh).1;have hQ:=aZ pe;have ow:Dm GF G':=W.dm (lr Y {_,U});refine bK ?_;dsimp only;refine{_,rfl,.inl {rfl,_,SqL.of U},_,rfl,_,rfl,B3,fun lf mb=>{_,rfl,_,rfl,lt2,fun lt ky=>{_,rfl,?_}}};have hY:=aE mb (.lst [.int 12]);have lx:=aE ky (.tup [.ref lb,.ref lq]);have s2:=hY.trans lx;have L:Lf (upd (upd G' lf (.lst [.int 12])) lt (.tup [.ref lb,.ref lq])) p lf:={Y.same s2,12,lx _ _ aj};have T:Th (upd (upd G' lf (.lst [.int 12])) lt (.tup [.ref lb,.ref lq])) lt lb lq bs qs:={aj,s2 _ _ (W _ _ ro (rc g nh.1)),s2 _ _ (W _ _ ry (rc pr nh.2.1)),by omega,by omega};refine{(bs,qs),p,lt,lb,lq,lf,m,3,rfl,by decide,L,T,by omega,by omega,fun l ys dd Gk ii h1 hS O1 t1 kz io Lk kk=>{lt2,fun t ht=>?_}};have st:=aE ht (.tup [.str sg,.ref l])
   -- all but the purse stays
   have kp:Kp [p] G' Gk:=fun b o e nb=>kk _ _ (s2 _ _ e) fun z=>by
    simp only[ar,aV,or_false]at z
    rcases z with z|z
    ·exact nb (by simp[z])
    ·rw[z,mb]at e
     cases e
   have ki:d8 G' Gk:=kp.keepI fun a ha=>by
    obtain⟨x,y,e⟩:=Y;rw[aD.mp ha];exact{x,_,e}
   have ml:=kp _ _ U (by simpa using pw);have ov:=st _ _ ml;refine{hl,hv,.ref t,rfl,rfl,ov,by omega,?_};have lv:∀ys,upd Gk t (.tup [.str sg,.ref l]) hl≠some (.tup ys):=fun ys z=>by
    rw[ov]at z
    cases z
   have ri:Dm G' (upd (upd G' lf (.lst [.int 12])) lt (.tup [.ref lb,.ref lq])):=Dm.same s2;have new:HsO bs qs GF (upd Gk t (.tup [.str sg,.ref l])) (.ref t) (sg,dd):={t,l,ys,rfl,aj,ow l (ri l ii),st _ _ h1,by omega,(O1.base (ow.trans ri)).keepI (d8.same st)};refine{_,hv++[.ref t],hs++[(sg,dd)],rfl,aW (st _ _ (kp _ _ oT (by simpa using js))) ka,aj,?_,by rw[ay,mz];rfl,fun q hq=>?_,uN (Lk.pu.same st) pw,fun b o' e nb=>?_}
   ·exact eR (Paired.mono (fun v q z=>(z.keepI (ki.trans (d8.same st))).old ly lv) pe) (new.old ly lv)
   ·rcases bZ.mp hq with z|z
    ·exact my q z
    ·rw[aD.mp z];exact{t1,dB kz (by decide),dB io (by decide)}
   ·have jn:b≠hl:=fun z=>nb (by simp[z]);rw[aN jn];exact st _ _ (kp _ _ (W _ _ e nb) fun z=>nb (by simp only[aD]at z;simp[z]))
  ·rintro σ G' ⟨u8,hv,hs,rfl,oT,U,pe,mz,my,Y,W⟩;dsimp only;rw[au]at mz;have nc:But p G G':=fun b o e nb=>W _ _ (bF _ _ e nb) (rc nb (aw e mt));have mf:=nc _ _ pp py;have pq:=W _ _ ro (rc g nh.1);have hH:=aZ pM;rw[mq]at il;refine{_,rfl,.inl {rfl,_,SqL.of mf},_,rfl,?_};refine xn (K:=K) (a:=lb) (xs:=bs.map V.str) (fun R h=>{_,rfl,h}) (SqL.of pq) (fun j ys Gx=>∃ps:List (Str×Int),gU Gx ps ys/\ps.map (·.1)=bs.take j/\(∀q∈ps,Wo q.2)/\dE Gx p/\But p G' Gx) {[],.nil,rfl,(fun q hq=>by cases hq),Y,But.refl _ _} ?_ ?_ ?_
   ·rintro j ys Gx hj ⟨ps,h5,h6,h7,h8,h9⟩;have l5:=h5.length;have l6:=congrArg jD h6;rw[au,dH]at l6;exact{SqL.of (h9 _ _ pq g),by omega}
   ·rintro j v ys Gx hj ⟨ps,h5,h6,h7,h8,h9⟩;obtain⟨o,ho,rfl⟩:=zC hj;refine{rfl,?_};unfold xJ;refine gG ?_;refine{_,rfl,_,rfl,p,rfl,h8,fun x Gy x0 x1 kt mr=>{lt2,fun t ht=>?_}};have st:=aE ht (.tup [.str o,.int x]);refine{ps++[(o,x)],?_,?_,fun q hq=>?_,kt.same st,(h9.trans mr).same st}
    ·unfold gU;rw[cw];exact eR (gU.tups (fun t xs e=>st _ _ (d8.but h8 mr _ _ e (n6 xs))) h5) ⟨t,rfl,aj⟩
    ·rw[cw,h6,gs,ho];rfl
    ·rcases bZ.mp hq with z|z
     ·exact h7 q z
     ·rw[aD.mp z];exact⟨x0,x1⟩
   rintro vb Gx ⟨ps,jp,kb,wb,mn,bx⟩ bl mc;rw[au,fg]at kb;have ip:=aE mc (.lst vb);refine{_,rfl,_,rfl,_,rfl,by show 5<=aB;omega,fun t ht=>?_};have st:=aE ht (.tup [.str nm,.ref bl,.ref lq,.ref dl,.ref hl]);have sZ:=ip.trans st;have bz:=bx.same sZ;have pc:=nc.trans bz;have lc:=(d8.but Y bx).trans (d8.same sZ);have kB:G bl=none:=nc.dm Y bl (bx.dm mn bl mc);have im:Dm G GF:=bF.dm pR;have iF:Mch m G (upd (upd Gx bl (.lst vb)) t (.tup [.str nm,.ref bl,.ref lq,.ref dl,.ref hl])) t nm bs qs ds hs ps:={{bl,lq,dl,hl,vb,hv,aj,st _ _ aj,gU.same sZ jp,bz _ _ (W _ _ ry (rc pr nh.2.1)) pr,bz _ _ (W _ _ pm (rc md nh.2.2)) md,bz _ _ U pw,Paired.mono (fun v q z=>(z.keepI lc).base im) pe,kB,lj,kc,mt},kb,kw,lk,by omega,by omega,ld,by omega,wb,my};have oi:=pc _ _ pp py;have lw:∀ys,upd (upd Gx bl (.lst vb)) t (.tup [.str nm,.ref bl,.ref lq,.ref dl,.ref hl]) fl≠some (.tup ys):=fun ys z=>by
    rw[oi]at z
    cases z
   have ri:Dm G2 G:=kG.dm fun a z=>by
    simp only[ar,aV,or_false]at z
    rcases z with rfl|rfl
    ·obtain⟨x,y,e⟩:=J;exact{_,e}
    ·exact{_,pp}
   refine{fl,xs,.ref t,rfl,rfl,oi,by omega,?_};refine{_,_,_,_,_,_,xs++[.ref t],Ms++[⟨nm,bs,qs,ds,hs,ps⟩],rfl,aW (pc _ _ hG ix) iv,aj,?_,by rw[ay,lM];rfl,uN (mn.same sZ) py,fun b o e nb=>?_}
   ·exact eR (Paired.mono (fun v M z=>(z.but px J pc).old mv lw) pM) (MIn.old mv lw {t,rfl,iF.base ri})
   ·have n1:b≠fl:=fun z=>nb (by simp[z]);have n2:b≠p:=fun z=>nb (by simp[z]);rw[aN n1];exact pc _ _ (kG _ _ e nb) n2
 ·rintro σ G ⟨u3,u4,u5,u6,u7,u8,xs,Ms,rfl,hG,pp,pM,lM,J,kG⟩;dsimp only;rw[au,mq]at lM;have bH:But p H G:=fun b o e nb=>kG _ _ (b2 _ _ e nb) fun z=>by
   simp only[ar,aV,or_false]at z;exact z.elim nb (aw e la)
  have ri:Dm H G2:=b2.dm px;exact eW {_,rfl,k fl xs Ms G pp (by rw[lM];exact Paired.mono (fun v M ⟨t,e,z⟩=>{t,e,z.base ri}) pM) (by omega) (by omega) py J bH}
end
theorem K5{r:Int}(h0:0<=r)(h1:r<4):∃x:Str,atI [V.str "go",.str "on",.str "stop",.str "odd"] r=some (.str x):=by
 obtain⟨x,hx,_⟩:=kJ (bs:=["go","on","stop","odd"]) h0 h1;exact⟨x,hx⟩
section
variable{P:aM}{w:bO}{K:af}{mg:Str->Option ae}{base:cC}{f fD fW fSg:aa}{fd fdD fdW fdSg:bX}
seal PS PSs PE PA PT PW PI PG PGs PC
abbrev nSg:List Str:=["_law_purse_here","_law_many","_law_time","_law_rank","_law_to","_law_sign_here"]
abbrev pSg:List Str:=["_law_purse_here","_law_many"]
theorem IR:bN nSg pSg (aL lW):={}
inductive Mh(vs:List V)(H:Hp)(Q:VK)(_e:XK):Prop where
 |mk(p:aa)(m:Nat)(_:vs=[.ref p,.int m])(_:dE H p)(_:0<m)(_:m<1000)(_:∀(v:V) (e:Ev) (H':Hp),mI H' v e->qR m e->dE H' p->But p H H'->Q v H'):Mh vs H Q _e
def OC:Sp:=fun vs H Q Z=>Mh vs H Q Z
theorem Mj(D:Df K mg "_law_sign" lW pSg f fd)(Z:Df K mg "_law_draw" eC pD fD fdD)(Y:Df K mg "_law_worth" gb pW fW fdW)(B:Bl mg):bL P w K mg base CX0 3 f fd pSg OC:=by
 have I:bL P w K mg base CX0 1 fD fdD pD jL:=jM Z;have GW:bL P w K mg base CX0 2 fW fdW pW vV:=xo Y Z B;refine D.F.ok IR (fun vs H Q E h=>?_) (fun dz A outer s H vs Q E hr h=>?_)
 ·obtain⟨p,m,rfl,_⟩:=h;rfl
 obtain⟨p,m,rfl,pu,m0,m1,k⟩:=h;have r1:cZ 1 _:=hr.mono (by decide);have r2:cZ 2 _:=hr;refine⟨_,ah (bJ (i:=2) IR.nd rfl (Or.inl rfl) (aI I r1 (by rfl) Z.m Z.F.kp Z.b .nil bC (aR (pv 0) (pI (bY dO (eU (dS av (oR (cR gK (cR sy av av) av) ag))) (hZ q8 (by rfl) B.int boot_int (aq (oW fc (aI I r1 (by rfl) Z.m Z.F.kp Z.b .nil bC (aR (pv 0) (dS av ag))) av (cq _)) ag)) (fun _ _=>rfl)) ag))))
  (ah (bJ (i:=3) IR.nd rfl (Or.inl rfl) (aI I r1 (by rfl) Z.m Z.F.kp Z.b .nil bC (aR (pv 0) (dS av ag))))
  (ah (bJ (i:=4) IR.nd rfl (Or.inl rfl) (aI I r1 (by rfl) Z.m Z.F.kp Z.b .nil bC (aR (pv 0) (aR (pv 1) ag))))
  (ah (bJ (i:=5) IR.nd rfl (Or.inl rfl) (bY dO (eU (dS bS (dS bS (dS bS (dS bS ag))))) (aI I r1 (by rfl) Z.m Z.F.kp Z.b .nil bC (aR (pv 0) (dS av ag))) (fun _ _=>rfl)))
  (aA (bE (dZ (aR (pv 2) (aR (pv 3) (aR (pv 4) (aR (pv 5) (iz (aI GW r2 (by rfl) Y.m Y.F.kp Y.b .nil bC (aR (pv 0) ag)) (iz (aI GW r2 (by rfl) Y.m Y.F.kp Y.b .nil bC (aR (pv 0) ag)) ag)))))))))))),?_⟩
 have big:=d9;have c6:Eu 10 6:={by decide,by decide,by decide};refine bU (cO {_,rfl,_,_,rfl,rfl,c6,_,_,rfl,rfl,lt2,fun l0 W=>?_});have s0:=aE W (.lst [.int 12,.int ((10:Int)^(6:Int).toNat+1)]);refine{_,rfl,p,8,rfl,pu.same s0,by decide,by decide,fun r G r0 r8 O bG=>{rfl,.inr {_,rfl,l0,_,_,_,rfl,rfl,SqL.of (bG _ _ aj (sQ pu W)),zB,?_}}};obtain⟨mm,em,eb⟩:∃m:Int,(if decide (V.int r=V.int 7)=true then V.int ((10:Int)^(6:Int).toNat+1) else V.int 12)=.int m/\(0<m/\m<=1000001):=by
  by_cases c:V.int r=V.int 7
  ·rw[decide_eq_true c];exact{_,rfl,by decide}
  ·rw[decide_eq_false c];exact{12,rfl,by decide}
 refine rW ?_;show jL [V.ref p,(if decide (V.int r=V.int 7)=true then V.int ((10:Int)^(6:Int).toNat+1) else V.int 12)] _ _ _;rw[em];refine{p,mm,rfl,O,eb.1,by omega,fun z G1 dV dL ee b1=>bK ?_};have b1:But p H G1:=((But.same (But.refl p H) s0).trans bG).trans b1;clear bG O s0 W;dsimp only;refine bU (cO {_,rfl,p,10,rfl,ee,by decide,by decide,fun rk G2 ea dG eh b2=>bK ?_});dsimp only;refine bU (cO {_,rfl,_,rfl,p,m,rfl,eh,by omega,by omega,fun to G3 to0 to1 U b3=>bK ?_});dsimp only;refine bU (cO {by show 4<=aB;omega,fun l3 J=>?_});have s3:=aE J (.lst [.str "go",.str "on",.str "stop",.str "odd"]);refine{_,rfl,p,4,rfl,U.same s3,by decide,by decide,fun x G4 x0 x4 g b4=>?_};obtain⟨sg,ed⟩:=K5 x0 x4;refine{l3,_,_,_,rfl,rfl,SqL.of (b4 _ _ aj (sQ U J)),ed,bK ?_};dsimp only;refine eW {_,rfl,_,rfl,_,rfl,_,rfl,_,rfl,p,rfl,g,fun va G5 a0 a1 ec b5=>{_,rfl,p,rfl,ec,fun vb G6 c0 c1 ef b6=>{by show 6<=aB;omega,fun t ht=>?_}}};have st:=aE ht (.tup [.int z,.int rk,.int to,.str sg,.int va,.int vb]);exact k _ {z,rk,0,0,to,sg,va,vb} _ ⟨t,rfl,aj⟩ {to0,to1,uO {by show -1000000<=z;omega,by show z<=1000000;omega},⟨a0,a1⟩,⟨c0,c1⟩} (ef.same st) (((((((b1.trans b2).trans b3).same s3).trans b4).trans b5).trans b6).same st)
abbrev nSs:List Str:=["_law_purse_here","_law_many"]
abbrev pSs:List Str:=["_law_purse_here","_law_many"]
theorem scSs:bN nSs pSs (aL kE):={}
theorem ndSs:((["_law_k"]:List Str)++nSs).Nodup:=by decide +kernel
inductive Ml(vs:List V)(H:Hp)(Q:VK)(_e:XK):Prop where
 |mk(p:aa)(m:Nat)(_:vs=[.ref p,.int m])(_:dE H p)(_:0<m)(_:m<1000)(_:∀(l:aa) (svs:List V) (es:List Ev) (H':Hp),H' l=some (.lst svs)->aK (mI H') svs es->es.length<60->(∀e∈es,qR m e)->l≠p->dE H' p->But p H H'->Q (.ref l) H'):Ml vs H Q _e
def spSs:Sp:=fun vs H Q Z=>Ml vs H Q Z
theorem ok_ss(D:Df K mg "_law_signs" kE pSs f fd)(Y:Df K mg "_law_sign" lW pSg fSg fdSg)(W:Df K mg "_law_draw" eC pD fD fdD)(DW:Df K mg "_law_worth" gb pW fW fdW)(B:Bl mg):bL P w K mg base CX0 4 f fd pSs spSs:=by
 have GD:bL P w K mg base CX0 1 fD fdD pD jL:=jM W;have ci:bL P w K mg base CX0 3 fSg fdSg pSg OC:=Mj Y W DW B;refine D.F.ok scSs (fun vs H Q E h=>?_) (fun cd A outer s H vs Q E hr h=>?_)
 ·obtain⟨p,m,rfl,_⟩:=h;rfl
 obtain⟨p,m,rfl,pu,m0,m1,k⟩:=h;have r1:cZ 1 _:=hr.mono (by decide);have r3:cZ 3 _:=hr;refine{_,aA (bE (o7 ["_law_k"] (iX.open (NN:=nSs) (N:=nSs) (sc:=aL kE) rfl rfl (by decide +kernel) rfl (by decide +kernel) (by decide +kernel) rfl (by decide +kernel)) rfl (jr (by rfl) B.range (iz (aI GD r1 (by rfl) W.m W.F.kp W.b .nil bC (aR (pv 0) (pI (bY dO (eU (dS av (dS av ag))) (hZ q8 (by rfl) B.int boot_int (aq (oW fc (aI GD r1 (by rfl) W.m W.F.kp W.b .nil bC (aR (pv 0) (dS av ag))) av (cq _)) ag)) (fun _ _=>rfl)) ag))) ag)) (fun _ _ _ _=>eA (i:=0) ndSs rfl (Or.inl rfl)) (fun _ _ _ _=>lu) (fun _ _ _ _=>aI ci r3 (by rfl) Y.m Y.F.kp Y.b .nil bC (aR (pv 1) (aR (pv 2) ag))))),?_};have big:=d9;refine eW ?_;refine uM (fun n G=>n<21/\dE G p/\But p H G) (fun R hR=>{_,rfl,lt2,fun l0 J=>?_}) (fun n G h=>by have:=h.1;omega) (fun n _ i ys G=>∃es:List Ev,aK (mI G) ys es/\es.length=i/\(∀e∈es,qR m e)/\dE G p/\But p H G) (fun n G h=>{[],.nil,rfl,(fun e g=>by cases g),h.2.1,h.2.2}) ?_ ?_ ?_
 ·have s0:=aE J (.lst [.int 6,.int 21]);refine{_,rfl,p,6,rfl,pu.same s0,by decide,by decide,fun r G r0 r8 Z O=>{rfl,.inr {_,rfl,l0,_,_,_,rfl,rfl,SqL.of (O _ _ aj (sQ pu J)),zB,?_}}};obtain⟨mm,em,ce⟩:∃m:Int,(if decide (V.int r=V.int 5)=true then V.int 21 else V.int 6)=.int m/\(0<m/\m<=21):=by
   by_cases c:V.int r=V.int 5
   ·rw[decide_eq_true c];exact{21,rfl,by decide}
   ·rw[decide_eq_false c];exact{6,rfl,by decide}
  rw[em];refine{p,mm,rfl,Z,ce.1,by omega,fun x G1 x0 x1 U I=>?_};obtain⟨n,rfl⟩:∃n:Nat,x=(n:Int):={x.toNat,by omega};exact hR n G1 {by omega,U,((But.same (But.refl p H) s0).trans O).trans I}
 ·rintro n G0 h i ys G hi ⟨es,h1,h2,_⟩;have:=h.1;have:=aZ h1;omega
 ·rintro n G0 h i ys G hi ⟨es,h1,h2,h3,Z,O⟩;refine{rfl,?_};unfold xJ;refine gG ?_;refine{_,rfl,_,rfl,p,m,rfl,Z,m0,m1,fun v e G1 hv g U I=>{es++[e],eR (Paired.mono (fun v e ⟨t,e',h⟩=>{t,e',d8.but Z I _ _ h (n6 _)}) h1) hv,by rw[ay,h2];rfl,fun e' h'=>?_,U,O.trans I}}
  rcases bZ.mp h' with z|z
  ·exact h3 e' z
  ·rw[aD.mp z];exact g
 ·rintro n G0 h ys G ⟨es,h1,h2,h3,Z,O⟩ l hl;have st:=aE hl (.lst ys);exact k l ys es _ aj (Paired.mono (fun _ _ z=>z.same st) h1) (by have:=h.1;omega) h3 (sQ Z hl) (Z.same st) (O.same st)
end
end My
namespace L2
open PySem PySem.Spec PyProof.Rows
theorem K6{vs:List ae}{ns:List Int}(h:dQ vs ns):c9 (ns.map V.int) vs:=by
 induction h with
 |nil=>exact .nil
 |cons n t _ Z=>exact .cons ⟨t,rfl⟩ Z
section
variable{prog:aM}{w:bO}{A:cj}{E:ae->ao->Prop}{s:ao}
theorem zE{K:Type}[DecidableEq K]{knd:Lm prog w K}{d:aa}{kvs:List (K×ae)}{H:List Int}{Q:ae->ao->Prop}(hh:A.handled=none)(lo:(d==fi)=false)(hm:s.heap.DictOf knd d kvs)(J:kvs.length<64)
  (hk:∀vs:List ae,vs.length=kvs.length->(∀(j:Nat) (v:ae),vs[j]?=some v->∃k x,kvs[j]?=some (k,x)/\knd.is k v=true)->dQ vs H)
  (h:∀(h1 h2:cC) (tk:Nat) (O:List ae) (Y:List Int) (e:Nat),(∀b o,s.heap.get? b=some o->h1.get? b=some o)->(∀b o,h1.get? b=some o->h2.get? b=some o)->h2.get? h1.objs.size=some {cls:=.type "list",data:=.seq O.toArray e}->dQ O Y->Y.Perm H->Y.Pairwise (·<=·)->Q (.ref h1.objs.size) {s with heap:=h2,toks:=tk}) :
  aX (bA prog w) A (xw (.builtin "sorted") [.ref d]) Q E s:=by
 obtain⟨ep,D⟩:=hm.dictAt;refine Calls.call_function_entry J6 Hg Hh (args_sorted1 _) ?_;unfold ic.«sorted»;refine ai (m:=NF "sorted" 1 1 _) (aO ?_);have sl:64<=aB:=by decide
 refine ai (PySem.W.kdu_collect (A:=A.in1) (PySem.W.kdl_dict (knd:=knd) (kvs:=kvs) (ep:=ep) lo) hh D (by omega) fun h' tk Z I V=>?_);have hl:Z.toList.length=kvs.length:=by rw[fY];exact V.1
 have hS:dQ Z.toList H:=hk Z.toList hl fun j v e=>V.2 j v (by rw[<- qp];exact e);refine ai (qC ?_ (by rw[hl];omega));have U:(h'.push (dW "list" Z.toList.toArray 0)).get? h'.objs.size=some (dW "list" Z.toList.toArray 0):=cz _ rfl;refine ai (dU (lN BN {_,U,rfl} As (list_sort_tree (s:={s with heap:=h'.push (dW "list" Z.toList.toArray 0),toks:=tk}) U hS (by rw[hl];exact J) fun out Y b1 b2 g=>{_,rfl,?_}) (args_list_sort _)));obtain⟨e,he⟩:=sortedHeap_at (out:=out) U;refine aO {_,rfl,h h' _ tk out.toList Y e I (fun b o z=>?_) he b1 b2 g};have lt:=aP z;rw[sortedHeap_old (aQ lt) (by rw[rO];exact iL lt)];exact aJ _ z
end
section
variable{X:Cx}
theorem Fd{P:aM}{w:bO}:∀(kvs:List (Key×V)) (Z:List Int) (Y:List (Key×ae)),KV kvs Y->kvs.map (·.1)=Z.map Sum.inl->∀vs:List ae,vs.length=Y.length->(∀(j:Nat) (v:ae),vs[j]?=some v->∃k x,Y[j]?=some (k,x)/\(eZ P w).is k v=true)->dQ vs Z:=by
 intro kvs
 induction kvs with
 |nil=>
  intro Z Y k e vs hl _
  cases k
  cases Z with
  |nil=>
   cases vs with
   |nil=>exact .nil
   |cons _ _=>cases hl
  |cons _ _=>cases e
 |cons kv r ih=>
  intro Z Y k e vs hl hv
  cases k with
  |@cons _ J _ wr z D=>
   cases Z with
   |nil=>cases e
   |cons x W=>
    rw[cg,cg]at e;injection e with e1 g
    cases vs with
    |nil=>cases hl
    |cons v vr=>
     obtain⟨k',I,a,b⟩:=hv 0 v rfl;have a:J=(k',I):=dP a;have H:k'=Sum.inl x:=by
      rw[<- e1,z.1,a]
     subst H;obtain⟨t,rfl⟩:=Fh (show Ba x v=true from b);exact .cons x t (ih W wr D g vr (Jq hl) fun j U O=>hv (j+1) U O)
theorem zF(hc:X.calm=true):jT X (.builtin "sorted") (fun xs H Q=>∃p Y kvs,xs=[V.ref p]/\H p=some (.dK kvs)/\kvs.map (·.1)=Y.map Sum.inl/\Y.length<64 /\
  ∀(l:aa) (Z:List Int),H l=none->Z.Perm Y->Z.Pairwise (·<=·)->Q (.ref l) (upd H l (.lst (Z.map V.int)))):=by
 intro pins s σ H xs us Q I r h;obtain⟨p,Y,kvs,rfl,hp,hk,bi,q⟩:=h;obtain⟨u,rfl,ru⟩:=vals1 r
 cases ru;have sl:64<=aB:=by decide
 obtain⟨_,n1,g,k1,m1⟩:=(show eP X.prog X.w H s.heap p (.dK kvs) from I.hok p _ hp);have lk:=congrArg jD hk;rw[au,au]at lk;refine zE (knd:=eZ X.prog X.w) (I.ok.hd hc) n1 m1 (by rw[<- k1.length];omega) (Fd kvs Y g k1 hk) fun h1 h2 tk W Z e U O he b1 J b3=>?_;have D:Inv X pins σ H {s with heap:=h1,toks:=tk}:=I.kept (t':=tk) U;have z:=D.laid (a:=h1.objs.size) (o:=.lst (Z.map V.int)) (t':=tk) (h':=h2) O (ax _) {by rw[au,J.length_eq];omega,W,e,K6 b1,he};exact{.ref h1.objs.size,_,z,rfl,q _ Z (D.hok.fresh (ax _)) J b3}
end
end L2
namespace My
open PySem L2
section
variable{Ms:List MD}{r:RS}
theorem Ec(Ms:List MD)(r:RS):∀(i d:Nat),∃t,(itR Ms r (i+d)).2=(itR Ms r i).2++t
 |i,0=>{[],by rw[cL];rfl}
 |i,d+1=>by
  obtain⟨t,e⟩:=Ec Ms r i d;refine{t++(eJ Ms (itR Ms r (i+d)).1).2,?_};show (itR Ms r (i+d)).2++(eJ Ms (itR Ms r (i+d)).1).2=_;rw[e,iK]
theorem IS{Z:Int}(mo:p5 Ms):∀{i:Nat},(∀j,j<i->ROk Ms.length (itR Ms r j).1/\gN (itR Ms r j).1 (Z-(itR Ms r j).2.length)=none)->(∀j,j<i->(itR Ms r j).2.length=j)/\(itR Ms r i).2.length<=i
 |0,_=>{fun j Y=>absurd Y (gz _),ax _}
 |i+1,h=>by
  obtain⟨h2,I⟩:=IS (i:=i) mo fun j Y=>h j (by omega);have U:=gx (h i (by omega)).2;have O:=(h i (by omega)).1;obtain⟨_,s2⟩:=tU (kg mo O U.2.1);have li:(itR Ms r i).2.length=i:=by
   cases i with
   |zero=>rfl
   |succ i=>
    -- the turn ahead of it told a record, else it would be over
    have e:(itR Ms r (i+1)).2=(itR Ms r i).2++(eJ Ms (itR Ms r i).1).2:=rfl;have J:=gx (h i (by omega)).2;obtain⟨_,W⟩:=tU (kg mo (h i (by omega)).1 J.2.1)
    rcases W with⟨q,eq⟩|⟨_,sp,V⟩
    ·rw[e,eq,ay,h2 i (by omega)];rfl
    ·have:(itR Ms r (i+1)).1.sp=some sp:=V;rw[U.1]at this
     cases this
  refine{fun j Y=>?_,?_}
  ·rcases vy j i with z|z
   ·exact h2 j z
   ·have:j=i:=by omega
    rw[this];exact li
  ·have e:(itR Ms r (i+1)).2=(itR Ms r i).2++(eJ Ms (itR Ms r i).1).2:=rfl;rw[e,ay,li]
   rcases s2 with⟨q,eq⟩|⟨eq,_⟩
   ·rw[eq];exact ax _
   ·rw[eq];exact gm _
theorem yA{Z:Int}{i:Nat}{e:End}(mo:p5 Ms)(s:jd Ms r Z i e)(m0:0<=Z):((itR Ms r i).2.length:Int)<=Z:=by
 cases i with
 |zero=>
  show ((0:Nat):Int)<=Z;omega
 |succ i=>
  obtain⟨h1,h2⟩:=IS mo s.1;have d:=gx (s.1 i (by omega)).2;have:=h1 i (by omega);omega
theorem tX{r:RS}{a b:Int}(h:gN r a=none)(l:a<=b):gN r b=none:=by
 obtain⟨h1,h2,Z⟩:=gx h;unfold gN;rw[h1];dsimp only;rw[if_neg,if_neg (by omega)];intro z;exact h2 (vW.mp z)
end
theorem nj(Ms:List MD)(r:RS)(i:Nat):∀j:Nat,itR Ms r (i+j)=((itR Ms (itR Ms r i).1 j).1,(itR Ms r i).2++(itR Ms (itR Ms r i).1 j).2)
 |0=>by
  show itR Ms r i=((itR Ms r i).1,(itR Ms r i).2++[]);rw[cL]
 |j+1=>by
  show ((eJ Ms (itR Ms r (i+j)).1).1,(itR Ms r (i+j)).2++(eJ Ms (itR Ms r (i+j)).1).2)=_;rw[nj Ms r i j];show _=((eJ Ms (itR Ms (itR Ms r i).1 j).1).1,(itR Ms r i).2++((itR Ms (itR Ms r i).1 j).2++(eJ Ms (itR Ms (itR Ms r i).1 j).1).2));rw[iK]
structure Mrk(Ms:List MD)(es:List Ev)(n:Nat)(r:RS):Prop where
 e:r=(itR Ms (cS Ms es) n).1
 l:∀j,j<=n->(itR Ms (cS Ms es) j).2.length=j
 d:∀j,j<n->ROk Ms.length (itR Ms (cS Ms es) j).1/\gN (itR Ms (cS Ms es) j).1 1=none
theorem Ed{r:RS}{k:Int}(h:gN r k=none):gN r 1=none:=by
 obtain⟨h1,h2,Z⟩:=gx h;unfold gN;rw[h1];dsimp only;rw[if_neg (fun z=>h2 (vW.mp z)),if_neg (by decide)]
theorem mrk_0(Ms:List MD)(es:List Ev):Mrk Ms es 0 (cS Ms es):=⟨rfl,fun j Z=>by
 have:j=0:=by omega
 subst this;rfl,fun j Z=>absurd Z (gz _)⟩
section
variable{Ms:List MD}{es:List Ev}{n i:Nat}{r:RS}{k:Int}{e:End}
theorem Mrk.full(mo:p5 Ms)(m:Mrk Ms es n r)(s:jd Ms r k i e)(l:((itR Ms r i).2.length:Int)=k):Mrk Ms es (n+i) (itR Ms r i).1/\(i:Int)=k:=by
 obtain⟨Z,U⟩:=IS mo s.1;have ik:(i:Int)=k:=by
  cases i with
  |zero=>exact l
  |succ i=>
   have d:=(gx (s.1 i (by omega)).2).2.2;rw[Z i (by omega)]at d;omega
 have V:=m.e;subst V;have add:=nj Ms (cS Ms es) n;refine{{by rw[add i],fun j Y=>?_,fun j Y=>?_},ik}
 ·by_cases c:j<=n
  ·exact m.l j c
  ·obtain⟨d,rfl⟩:∃d,j=n+d:={j-n,by omega};rw[add d];show ((itR Ms (cS Ms es) n).2++_).length=n+d;rw[ay,m.l n (ax _)]
   by_cases W:d<i
   ·rw[Z d W]
   ·have:d=i:=by omega
    rw[this];omega
 ·by_cases c:j<n
  ·exact m.d j c
  ·obtain⟨d,rfl⟩:∃d,j=n+d:={j-n,by omega};rw[add d];have q:=s.1 d (by omega);exact{q.1,Ed q.2}
theorem Mrk.on(m:Mrk Ms es n r)(s:jd Ms r k i e)(k0:0<=k):jd Ms (cS Ms es) (n+k) (n+i) e/\(itR Ms (cS Ms es) (n+i)).2.drop n=(itR Ms r i).2:=by
 have Z:=m.e;subst Z;have add:=nj Ms (cS Ms es) n;have len:∀d,((n:Int)+k)-(itR Ms (cS Ms es) (n+d)).2.length=k-(itR Ms (itR Ms (cS Ms es) n).1 d).2.length:=fun d=>by
  rw[add d];show (n:Int)+k-((itR Ms (cS Ms es) n).2++_).length=_;rw[ay,m.l n (ax _)];omega
 refine{{fun j Y=>?_,?_,?_},?_}
 ·by_cases c:j<n
  ·have q:=m.d j c;refine{q.1,tX q.2 ?_};rw[m.l j (by omega)];omega
  ·obtain⟨d,rfl⟩:∃d,j=n+d:={j-n,by omega};have q:=s.1 d (by omega);rw[len d,add d];exact q
 ·rw[len i,add i];exact s.2.1
 ·rw[add i];exact s.2.2
 ·rw[add i];show ((itR Ms (cS Ms es) n).2++_).drop n=_;rw[List.drop_append,m.l n (ax _),mJ,rR,List.drop_of_length_le (Bh (m.l n (ax _))),lF]
end
structure Rst(Ms:List MD)(r:RS):Prop where
 ok:ROk Ms.length r
 wk:∀(i:Nat) (M:MD) (s:Sta),Ms[i]?=some M->r.sts[i]?=some s->qM M.bs M.qs s.w
def CoK(CC CS m:aa)(F:Hp)(c:aa)(r:RS):Prop:=∃(dx sl pl:aa) (rv Y:V) (Z:List aa) (ps:List V),F c=some (.ins CC dx (iu (.ref m) (.ref sl) (.ref pl) rv Y))/\zu F rv r.re/\zv F Y r.sp/\F sl=some (.lst (Z.map V.ref))/\aK (StA CS F) Z r.sts/\F pl=some (.lst ps)/\aK (ib F) ps r.pd
theorem CoK.same{CC CS m:aa}{F G:Hp}(s:bh F G){c:aa}{r:RS}(h:CoK CC CS m F c r):CoK CC CS m G c r:=by
 obtain⟨dx,sl,pl,rv,J,V,ps,h1,h2,O,W,Z,Y,U⟩:=h;exact{dx,sl,pl,rv,J,V,ps,s _ _ h1,h2.same s,O.same s,s _ _ W,Paired.mono (fun _ _ z=>jS.same' s z) Z,s _ _ Y,Paired.mono (fun _ _ z=>z.same s) U}
theorem iC.rst{CC CS:aa}{Ms:List MD}{Hb G:Hp}{ex:Ex}{co m sl pl:aa}{r:RS}(c:iC CC CS Ms Hb ex G co m sl pl r):Rst Ms r:=⟨c.ok,c.wk⟩
theorem iC.weak{CC CS:aa}{Ms:List MD}{Hb Z G:Hp}{ex:Ex}{co m sl pl:aa}{r:RS}(s:bh Z Hb)(c:iC CC CS Ms Hb ex G co m sl pl r):iC CC CS Ms Z ex G co m sl pl r:={c.ok,fun b o e=>c.sm b o (s _ _ e),c.i1,c.i2,c.i3,c.n1,c.n2,c.n3,c.hc,c.hs,c.hp,c.wk,c.nt}
theorem iC.k{CC CS:aa}{Ms:List MD}{Hb G:Hp}{ex:Ex}{co m sl pl:aa}{r:RS}(c:iC CC CS Ms Hb ex G co m sl pl r):CoK CC CS m G co r:=by
 obtain⟨dx,rv,J,h1,h2,O⟩:=c.hc;obtain⟨V,W,Z⟩:=c.hs;obtain⟨ps,Y,U⟩:=c.hp;exact{dx,sl,pl,rv,J,V,ps,h1,h2.same cW,O.same cW,W,Paired.mono (fun _ _ z=>jS.same' cW z) Z,Y,Paired.mono (fun _ _ z=>z.same cW) U}
theorem sU{Z Y:Type}{R:Z->Y->Prop}:∀{xs:List Z} {ys:List Y} {i:Nat} {x:Z},aK R xs ys->xs[i]?=some x->∃y,ys[i]?=some y/\R x y
 |_,_,0,_,.cons a _,e=>by
  cases e;exact{_,rfl,a}
 |_,_,i+1,_,.cons _ r,e=>sU (i:=i) r e
theorem HZ.hid{CS:aa}{H0 H G:Hp}{st:aa}{bx:List (Str×Int)}{qu:List (Str×List Int)}{dr:Nat}{se:Int}{dxs bd qd:aa}{qa:List (Str×aa)}(s:bh H0 H)(n:HZ CS H G st bx qu dr se dxs bd qd qa):jS CS (Hid {[],H0} G) st bx qu dr se:=by
 have v:∀{a:aa} {o:HO},a∈st::bd::qd::qa.map (·.2)->G a=some o->Hid {[],H0} G a=some o:=fun m e=>by
  rw[eg (iT (none_of s (n.fr _ m)))];exact e
 exact{dxs,bd,qd,qa,v (by simp) n.hst,v (by simp) n.hb,v (by simp) n.hq,n.hl.hid fun a m=>iT (none_of s (n.fr a (by simp only[ar];exact .inr (.inr (.inr m)))))}
theorem zu.hid{ex:Ex}{G:Hp}(nt:∀a∈ex,∃o,G a=some o/\∀xs,o≠.tup xs){v:V}:∀{q:Option Ev},zu G v q->zu (Hid ex G) v q
 |none,h=>h
 |some _,⟨k,e,h⟩=>{k,e,gA nt h}
theorem zv.hid{ex:Ex}{G:Hp}(nt:∀a∈ex,∃o,G a=some o/\∀xs,o≠.tup xs){v:V}:∀{q:Option Stp},zv G v q->zv (Hid ex G) v q
 |none,h=>h
 |some (.fin _),⟨t,k,e,h1,h2⟩=>{t,k,e,gA nt h1,gA nt h2}
 |some (.flt _ _),⟨t,k,e,h1,h2⟩=>{t,k,e,gA nt h1,gA nt h2}
section
variable{P:aM}{w:bO}{K:af}{mg:Str->Option ae}{base:cC}{f fCp fCI CC CM CS:aa}{fd fdCp fdCI:bX}
seal PS PSs PE PA PT PW PI PG PGs PC
abbrev nCc:List Str:=["self","other"]
abbrev pCc:List Str:=["self"]
theorem scCc:bN nCc pCc (aL gX):={}
theorem ndCc:((["state"]:List Str)++nCc).Nodup:=by decide +kernel
inductive IT(CC CS:aa)(vs:List V)(H:Hp)(Q:VK)(_e:XK):Prop where
 |mk(Ms:List MD)(c m:aa)(r:RS)(_:vs=[.ref c])(_:CoK CC CS m H c r)(_:Rst Ms r)(_:Ms.length<1000)(_:r.pd.length<=1000000)(_:∀(G:Hp) (c' sl pl:aa),iC CC CS Ms H ⟨[c',sl,pl],H⟩ G c' m sl pl r->Q (.ref c') G):IT CC CS vs H Q _e
def IU(CC CS:aa):Sp:=fun vs H Q Z=>IT CC CS vs H Q Z
theorem Cc(F:Fun K "copy" "Course.copy" gX f fd)(ek:Mt K CS "copy" "State.copy" iR ["self"] fCp fdCp)(ec:bL P w K mg base CX0 3 fCp fdCp ["self"] (B2 CS))(MC:Mk K CC fCI)(eb:bL P w K mg base CX0 1 fCI fdCI ["self","model","states","pending"] (Oq CC))(ef:Binds K fdCI ["self","model","states","pending"] [])(T:CoT K mg CC)(TM:MdT K mg CM CS)(B:Bl mg) :
  bL P w K mg base CX0 4 f fd pCc (IU CC CS):=by
 refine F.ok scCc (fun vs H Q E h=>?_) (fun dn A outer s H vs Q E hr h=>?_)
 ·obtain⟨Ms,c,m,r,rfl,_⟩:=h;rfl
 obtain⟨Ms,c,m,r,rfl,hc,hR,lM,lp,k⟩:=h;have r2:cZ 2 _:=hr.mono (by decide);have r3:cZ 3 _:=hr;refine⟨_,ah (bJ (i:=1) scCc.nd rfl (Or.inl rfl) (j8 MC eb r2 (by rfl) T.m ef .nil bC (aq (d7 K (by rfl) (pv 0) (by rfl)) (aq (o7 ["state"] (iX.open (NN:=nCc) (N:=nCc) (sc:=aL gX) rfl rfl (by decide +kernel) rfl (by decide +kernel) (by decide +kernel) rfl (by decide +kernel)) rfl (jB (d7 K (by rfl) (pv 0) (by rfl))) (fun _ _ _ _=>eA (i:=0) ndCc rfl (Or.inl rfl)) (fun _ _ _ _=>lu) (fun _ _ _ _=>jb (pv 0) TM.clS ek.m ec r3 ek.b .nil bC)) (iz (hZ (AI K (by rfl)) (by rfl) B.list boot_list (aq (d7 K (by rfl) (pv 0) (by rfl)) ag)) ag)))))
  (ah (eT (pv 1) (d7 K (by rfl) (pv 0) (by rfl)) rfl)
  (ah (eT (pv 1) (d7 K (by rfl) (pv 0) (by rfl)) rfl)
  (aA (bE (pv 1))))),?_⟩
 have big:=d9;obtain⟨dx,sl,pl,rv,sv,ss,ps,h1,h2,h3,h4,h5,h6,h7⟩:=hc;refine bU (cO (uI ?_));refine{_,rfl,c,CC,dx,_,_,rfl,h1,T.cl,T.nM,co_m _ _ _ _ _,?_};have ee:=aZ h5;have lst:=hR.ok.len;refine xn (K:=K) (a:=sl) (xs:=ss.map V.ref) (fun R h=>{_,rfl,c,CC,dx,_,_,rfl,h1,T.cl,T.nS,Iq _ _ _ _ _,h}) (SqL.of h4) (fun i ys G=>∃U:List aa,ys=U.map V.ref/\bh H G/\aK (StA CS (Hid {[],H} G)) U (r.sts.take i)) {[],rfl,bh.refl _,by rw[jV];exact .nil} ?_ ?_ ?_
 ·rintro i ys G hi ⟨U,rfl,D,p1⟩;have:=aZ p1;rw[dH]at this;rw[au];exact{SqL.of (D _ _ h4),by omega}
 ·rintro i x ys G hi ⟨U,rfl,D,p1⟩;rw[cQ]at hi;obtain⟨st,hst,rfl⟩:=jO.mp hi;obtain⟨sta,hs,hS⟩:=sU h5 hst;have il:=(aG.mp hs).1;have hM:Ms[i]?=some Ms[i]:=aH (by omega);have wk:=hR.wk i _ sta hM hs;have el:=jS.same' D hS;obtain⟨dxs,bd,qd,qa,g1,_⟩:=id el;have kq:sta.qu.map (·.1)=Ms[i].qs:=wk.kq;have lq:sta.qu.length<100:=by
   have:=congrArg jD kq;rw[au]at this;have:=wk.fw;rw[ay]at this;omega
  refine{rfl,?_};unfold xJ;refine gG ?_;refine{_,rfl,st,dxs,_,rfl,g1,rfl,st,sta.bx,sta.qu,sta.dr,sta.se,rfl,el,by rw[kq];exact wk.nq,lq,fun G' ed dG dv dt dz N=>{U++[ed],by rw[cw];rfl,D.trans N.sm,?_}};rw[gs,hs];exact eR (Paired.mono (fun _ _ z=>jS.same' (gv N.sm) z) p1) (N.hid D)
 rintro ys G ⟨U,rfl,D,p1⟩ Z J;rw[au,ee,fg]at p1;have u1:=aE J (.lst (U.map V.ref));refine{_,rfl,c,CC,dx,_,_,rfl,u1 _ _ (D _ _ h1),T.cl,T.nP,Ir _ _ _ _ _,pl,ps,rfl,.inl (SqL.of (u1 _ _ (D _ _ h6))),fun Y I=>?_};have u2:=aE I (.lst ps);have s2:=(D.trans u1).trans u2;have q1:=u2 _ _ (kS J (.lst (U.map V.ref)));have q2:=kS I (.lst ps);have ej:H Z=none:=none_of D J;have ei:H Y=none:=none_of (D.trans u1) I;have eh:Z≠Y:=aw (kS J _) I;have uG:=u1.trans u2;revert s2 q1 q2 uG;generalize upd (upd G Z (.lst (U.map V.ref))) Y (.lst ps)=G2;intro s2 q1 q2 uG;refine fun O W g em nc=>{O,W,_,_,_,rfl,aj,fun G3 eo but=>{rfl,bK ?_}};dsimp only;have b3:∀b o,G2 b=some o->b≠O/\G3 b=some o:=fun b o e=>{aw e g,but _ _ (aW (aW e (aw e em)) (aw e g)) (aw e g)};refine bU {_,rfl,c,CC,dx,_,_,rfl,(b3 _ _ (s2 _ _ h1)).2,T.cl,T.nR,Oh _ _ _ _ _,_,rfl,O,CC,W,_,rfl,eo,T.cl,T.nR,xf _ _ _ _ _,?_};rw[Dv];have b4:∀b o,G2 b=some o->b≠O/\upd G3 O (.ins CC W (iu (.ref m) (.ref Z) (.ref Y) rv .non)) b=some o:=fun b o e=>{(b3 b o e).1,aW (b3 b o e).2 (b3 b o e).1};refine bU {_,rfl,c,CC,dx,_,_,rfl,(b4 _ _ (s2 _ _ h1)).2,T.cl,T.nE,KD _ _ _ _ _,_,rfl,O,CC,W,_,rfl,aj,T.cl,T.nE,xf _ _ _ _ _,?_};rw[zw];have b5:∀b o,G2 b=some o->b≠O/\upd (upd G3 O (.ins CC W (iu (.ref m) (.ref Z) (.ref Y) rv .non))) O (.ins CC W (iu (.ref m) (.ref Z) (.ref Y) rv sv)) b=some o:=fun b o e=>{(b4 b o e).1,aW (b4 b o e).2 (b4 b o e).1};have q3:upd (upd G3 O (.ins CC W (iu (.ref m) (.ref Z) (.ref Y) rv .non))) O (.ins CC W (iu (.ref m) (.ref Z) (.ref Y) rv sv)) O=some (.ins CC W (iu (.ref m) (.ref Z) (.ref Y) rv sv)):=aj;revert b5 q3;generalize upd (upd G3 O (.ins CC W (iu (.ref m) (.ref Z) (.ref Y) rv .non))) O (.ins CC W (iu (.ref m) (.ref Z) (.ref Y) rv sv))=G5;intro b5 q3;clear b4 b3 but eo em;have s5:bh G2 G5:=fun b o e=>(b5 b o e).2;have sH:bh H G5:=s2.trans s5;have ea:O≠Z:=fun z=>(b5 _ _ q1).1 z.symm;have dL:O≠Y:=fun z=>(b5 _ _ q2).1 z.symm;have dV:H O=none:=none_of s2 g;have er:∀a∈({[O,Z,Y],H}:Ex),∃o,G5 a=some o/\∀xs,o≠.tup xs:=fun a ha=>by
  rcases ha with ha|⟨o,e,n⟩
  case inr=>exact{o,sH _ _ e,n}
  have ha:a∈[O,Z,Y]:=ha;simp only[ar,aV,or_false]at ha
  rcases ha with rfl|rfl|rfl
  ·exact{_,q3,fun xs z=>by cases z}
  ·exact{_,s5 _ _ q1,fun xs z=>by cases z}
  ·exact{_,s5 _ _ q2,fun xs z=>by cases z}
 have sS:bh (Hid {[],H} G) (Hid {[O,Z,Y],H} G5):=xl (uG.trans s5) fun a ha=>by
  simp only[ar,aV,or_false]at ha
  rcases ha with rfl|rfl|rfl
  ·exact none_of uG g
  ·exact J
  ·exact none_of u1 I
 dsimp only;refine eW {_,rfl,k G5 O Z Y {hR.ok,fun b o e=>{aw e dV,aw e ej,aw e ei,sH _ _ e},.inl (by simp),.inl (by simp),.inl (by simp),ea,dL,eh,{W,rv,sv,q3,zu.hid er (h2.same sH),zv.hid er (h3.same sH)},{U,s5 _ _ q1,Paired.mono (fun _ _ z=>jS.same' sS z) p1},{ps,s5 _ _ q2,Paired.mono (fun _ _ z=>ib.hid er (z.same sH)) h7},hR.wk,er}}
end
def wit(x:Ev)(r:RS):RS:={r with pd:=jZ x r.pd}
theorem yB{x h:Ev}(l:HT.lexLt h.key x.key=true):∀dl:List Ev,jZ x (dl++[h])=jZ x dl++[h]
 | []=>by
  show (if HT.lexLt x.key h.key=true then _ else _)=_;rw[HT.lx_asym l];rfl
 |y::ys=>by
  show (if HT.lexLt x.key y.key=true then y::jZ x (ys++[h]) else x::y::(ys++[h]))=(if HT.lexLt x.key y.key=true then y::jZ x ys else x::y::ys)++[h]
  by_cases c:HT.lexLt x.key y.key=true
  ·rw[if_pos c,if_pos c,yB l ys];rfl
  ·rw[if_neg c,if_neg c];rfl
section
variable{Ms:List MD}{x:Ev}
theorem IV{r:RS}(mo:p5 Ms)(k:ROk Ms.length r)(n:r.pd≠[])(hx:∀h,r.pd.getLast?=some h->HT.lexLt h.key x.key=true)(un:∀e∈r.pd,x.key≠e.key)(J:x.fr=-1):eJ Ms (wit x r)=(wit x (eJ Ms r).1,(eJ Ms r).2):=by
 have Y:∀{h:Ev} {M:MD} {s:Sta},Did Ms r h M s->Did Ms (wit x r) h M s/\(wit x r).pd.dropLast=jZ x r.pd.dropLast:=fun {h M s} d=>by
  have l:r.pd.getLast?=some h:=by rw[d.pd,hJ]
  have e:(wit x r).pd=jZ x r.pd.dropLast++[h]:=by
   show jZ x r.pd=_
   conv=>lhs;rw[d.pd]
   exact yB (hx h l) _
  have Z:(wit x r).pd.dropLast=jZ x r.pd.dropLast:=by rw[e,rT]
  exact{{by rw[Z];exact e,d.hM,d.hs},Z}
 cases kg mo k n with
 |err h M s e d q eq=>
  obtain⟨d',Z⟩:=Y d;rw[qS d' q,eq,Z];rfl
 |ok h M s w d q N eq=>
  obtain⟨d',Z⟩:=Y d;rw[tS d' q,eq,Z];obtain⟨n1,n2,n3⟩:=xb k d N;have f:=k.fall;rw[d.pd]at f;obtain⟨f1,_⟩:=oO f;have W:h∈r.pd:=by
   rw[d.pd];exact bj _ (aD.mpr rfl)
  have h0:=(k.ev h W).to0;have V:∀y∈w.out,y.key≠x.key:=fun y hy=>nY (.inl (by rw[(n3 y hy).fr,J];omega));have ud:∀y∈r.pd.dropLast,x.key≠y.key:=fun y hy=>un y (eG _ hy);have g1:kX (l8 w.out (jZ x r.pd.dropLast)):=lE (lD f1 ud) (fun y hy z O=>by
   rcases ar.mp ((gR x _).mem_iff.mp O) with e|e
   ·rw[e];exact V y hy
   ·exact n1 y hy z e) n2
  have U:kX (jZ x (l8 w.out r.pd.dropLast)):=lD (lE f1 n1 n2) fun y hy=>by
   rcases bZ.mp ((eI _ _).mem_iff.mp hy) with e|e
   ·exact fun z=>V y e z.symm
   ·exact ud y e
  have I:(l8 w.out (jZ x r.pd.dropLast)).Perm (jZ x (l8 w.out r.pd.dropLast)):=by
   refine (eI _ _).trans ?_;refine ((iB w.out).append (gR x _)).trans ?_;refine vU.trans ?_;exact ((eI _ _).symm.cons x).trans (gR x _).symm
  rw[uK g1 U I];rfl
theorem Cd{r:RS}{h:Ev}(mo:p5 Ms)(k:ROk Ms.length r)(l:r.pd.getLast?=some h):∀e∈(eJ Ms r).1.pd,HT.lexLt h.key e.key=true:=by
 have n:r.pd≠[]:=fun z=>by
  rw[z]at l
  cases l
 have Z:∀{h':Ev},r.pd=r.pd.dropLast++[h']->h'=h/\∀e∈r.pd.dropLast,HT.lexLt h'.key e.key=true:=fun {h'} e=>by
  have f:=k.fall;rw[e]at f;refine{?_,(oO f).2};rw[e,hJ]at l;exact dP l
 cases kg mo k n with
 |err h' M s e d q eq=>
  rw[eq];obtain⟨rfl,lo⟩:=Z d.pd;exact lo
 |ok h' M s w d q N eq=>
  rw[eq];obtain⟨rfl,lo⟩:=Z d.pd;intro e W
  rcases bZ.mp ((eI _ _).mem_iff.mp W) with z|z
  ·obtain⟨_,new,e1,_,Y,_⟩:=N;have e1:w.out=new:=e1;rw[e1]at z;exact key_t (Y e z).t0
  ·exact lo e z
theorem K7{r:RS}(mo:p5 Ms)(k:ROk Ms.length r)(n:r.pd≠[]){P:Ev->Prop}(b:∀e∈r.pd,e.fr=-1->P e):∀e∈(eJ Ms r).1.pd,e.fr=-1->P e:=by
 cases kg mo k n with
 |err h M s e d q eq=>
  rw[eq];exact fun e Z=>b e (eG _ Z)
 |ok h M s w d q N eq=>
  rw[eq];have Y:h∈r.pd:=by
   rw[d.pd];exact bj _ (aD.mpr rfl)
  have h0:=(k.ev h Y).to0;intro e Z fr
  rcases bZ.mp ((eI _ _).mem_iff.mp Z) with z|z
  ·obtain⟨_,new,e1,_,W,_⟩:=N;have e1:w.out=new:=e1;rw[e1]at z;have:=(W e z).fr;omega
  ·exact b e (eG _ z) fr
end
def tY(r:RS)(x:Ev):Prop:=∀h,r.re=some h->HT.lexLt h.key x.key=true
section
variable{Ms:List MD}{es:List Ev}{x:Ev}
theorem Fe:cS Ms (es++[x])=wit (atP x es.length) (cS Ms es):=by
 unfold cS wit pH;rw[List.mapIdx_concat];unfold l8;rw[vi];rfl
theorem Mo{e:Ev}(h:e∈pH es):e.c<es.length:=by
 obtain⟨i,hi⟩:=dI h;obtain⟨y,hy,rfl⟩:=rD hi;have:=(aG.mp hy).1;show (i:Int)<_;omega
theorem zG(mo:p5 Ms):∀{i:Nat},(∀j,j<i->ROk Ms.length (itR Ms (cS Ms es) j).1/\gN (itR Ms (cS Ms es) j).1 1=none)->∀e∈(itR Ms (cS Ms es) i).1.pd,e.fr=-1->e∈pH es
 |0,_,e,Z,_=>by
  rcases bZ.mp ((eI _ _).mem_iff.mp Z) with z|z
  ·exact z
  ·cases z
 |i+1,h,e,Z,fr=>K7 mo (h i (by omega)).1 (gx (h i (by omega)).2).2.1 (zG mo (i:=i) fun j Y=>h j (by omega)) e Z fr
theorem IW(mo:p5 Ms):∀{i:Nat},(∀j,j<i->ROk Ms.length (itR Ms (cS Ms es) j).1/\gN (itR Ms (cS Ms es) j).1 1=none)->∀h,(itR Ms (cS Ms es) i).1.re=some h->∀e∈(itR Ms (cS Ms es) i).1.pd,HT.lexLt h.key e.key=true
 |0,_,h,hr,e,Z=>by cases hr
 |i+1,H,h,hr,e,Z=>by
  have W:=IW mo (i:=i) fun j U=>H j (by omega);have q:=H i (by omega);have hr:(eJ Ms (itR Ms (cS Ms es) i).1).1.re=some h:=hr;have Z:e∈(eJ Ms (itR Ms (cS Ms es) i).1).1.pd:=Z
  cases kg mo q.1 (gx q.2).2.1 with
  |err h' M s V d Y eq=>
   rw[eq]at hr Z;exact W h hr e (eG _ Z)
  |ok h' M s w d Y N eq=>
   have l:(itR Ms (cS Ms es) i).1.pd.getLast?=some h':=by rw[d.pd,hJ]
   have z:=Cd mo q.1 l e Z;rw[eq]at hr
   cases hr;exact z
theorem AU(mo:p5 Ms):∀{n:Nat},(∀j,j<n->ROk Ms.length (itR Ms (cS Ms es) j).1/\gN (itR Ms (cS Ms es) j).1 1=none)->(∀j,j<=n->(itR Ms (cS Ms es) j).2.length=j)->tY (itR Ms (cS Ms es) n).1 x->∀j,j<n->∀h,(itR Ms (cS Ms es) j).1.pd.getLast?=some h->HT.lexLt h.key x.key=true
 |0,_,_,_,j,Z,_,_=>absurd Z (gz _)
 |n+1,H,L,P,j,Z,h,hl=>by
  have q:=H n (by omega);have P:tY (eJ Ms (itR Ms (cS Ms es) n).1).1 x:=P;have len:((itR Ms (cS Ms es) n).2++(eJ Ms (itR Ms (cS Ms es) n).1).2).length=n+1:=L (n+1) (ax _);rw[ay,L n (by omega)]at len
  cases kg mo q.1 (gx q.2).2.1 with
  |err h' M s V d W eq=>
   rw[eq]at len;have len:n+0=n+1:=len;omega
  |ok h' M s w d W N eq=>
   rw[eq]at P;have hx:HT.lexLt h'.key x.key=true:=P h' rfl;have l:(itR Ms (cS Ms es) n).1.pd.getLast?=some h':=by rw[d.pd,hJ]
   by_cases c:j=n
   ·subst c;rw[l]at hl
    cases hl;exact hx
   ·refine AU mo (n:=n) (fun j Z=>H j (by omega)) (fun j Z=>L j (by omega)) (fun y hy=>?_) j (by omega) h hl;have Y:h'∈(itR Ms (cS Ms es) n).1.pd:=by
     rw[d.pd];exact bj _ (aD.mpr rfl)
    exact HT.lx_trans (IW mo (fun j Z=>H j (by omega)) y hy h' Y) hx
theorem Ee(mo:p5 Ms):∀{n:Nat},(∀j,j<n->ROk Ms.length (itR Ms (cS Ms es) j).1/\gN (itR Ms (cS Ms es) j).1 1=none)->(∀j,j<n->∀h,(itR Ms (cS Ms es) j).1.pd.getLast?=some h->HT.lexLt h.key (atP x es.length).key=true)->itR Ms (cS Ms (es++[x])) n=(wit (atP x es.length) (itR Ms (cS Ms es) n).1,(itR Ms (cS Ms es) n).2)
 |0,_,_=>by
  show (cS Ms (es++[x]),[])=_;rw[Fe];rfl
 |n+1,H,L=>by
  have q:=H n (by omega);show ((eJ Ms (itR Ms (cS Ms (es++[x])) n).1).1,(itR Ms (cS Ms (es++[x])) n).2++(eJ Ms (itR Ms (cS Ms (es++[x])) n).1).2)=_;rw[Ee mo (fun j Z=>H j (by omega)) (fun j Z=>L j (by omega))];dsimp only;rw[IV mo q.1 (gx q.2).2.1 (L n (by omega)) (fun e Y=>?_) rfl]
  ·rfl
  ·by_cases c:e.fr=-1
   ·have:=Mo (zG mo (fun j Z=>H j (by omega)) e Y c);refine nY (.inr ?_);show (es.length:Int)≠e.c;omega
   ·exact nY (.inl fun z=>c z.symm)
theorem Ef{r:RS}(k:ROk Ms.length r){y:Ev}(Y:qR Ms.length y)(W:y.fr=-1)(un:∀e∈r.pd,y.key≠e.key):ROk Ms.length (wit y r):=by
 refine{k.len,lD k.fall un,fun e Z=>?_,fun e Z=>?_}
 ·rcases ar.mp ((gR y _).mem_iff.mp Z) with z|z
  ·rw[z];exact Y
  ·exact k.ev e z
 ·rcases ar.mp ((gR y _).mem_iff.mp Z) with z|z
  ·rw[z];exact .inl W
  ·exact k.cn e z
theorem IX(mo:p5 Ms){n:Nat}{r:RS}(m:Mrk Ms es n r):∀e∈r.pd,(atP x es.length).key≠e.key:=fun e Z=>by
 rw[m.e]at Z
 by_cases c:e.fr=-1
 ·have:=Mo (zG mo m.d e Z c);refine nY (.inr ?_);show (es.length:Int)≠e.c;omega
 ·exact nY (.inl fun z=>c z.symm)
theorem Mrk.fork(mo:p5 Ms){n:Nat}{r:RS}(m:Mrk Ms es n r)(ex:qR Ms.length x)(p:tY r (atP x es.length)):Mrk Ms (es++[x]) n (wit (atP x es.length) r)/\(itR Ms (cS Ms (es++[x])) n).2=(itR Ms (cS Ms es) n).2:=by
 have W:=m.e;subst W;have V:=AU mo m.d m.l p;have Y:∀j,j<=n->itR Ms (cS Ms (es++[x])) j=(wit (atP x es.length) (itR Ms (cS Ms es) j).1,(itR Ms (cS Ms es) j).2):=fun j Z=>Ee mo (fun i hi=>m.d i (by omega)) (fun i hi=>V i (by omega));refine{{by rw[Y n (ax _)],fun j Z=>by rw[Y j Z];exact m.l j Z,fun j Z=>?_},by rw[Y n (ax _)]};rw[Y j (by omega)];have q:=m.d j Z;obtain⟨d1,d2,d3⟩:=gx q.2;refine{Ef q.1 ⟨ex.to0,ex.to1,ex.wt,ex.wa,ex.wb⟩ rfl (IX mo {rfl,fun i hi=>m.l i (by omega),fun i hi=>m.d i (by omega)}),?_};unfold gN;show (match (itR Ms (cS Ms es) j).1.sp with|some s=>_|none=>_)=none;rw[d1];dsimp only;rw[if_neg (fun z=>?_),if_neg (by decide)];have pl:=(gR (atP x es.length) (itR Ms (cS Ms es) j).1.pd).length_eq;have z:(jZ (atP x es.length) (itR Ms (cS Ms es) j).1.pd)=[]:=vW.mp z;rw[z]at pl
 cases pl
end
def Wp(p:aa)(H:Hp):Hp:=fun a=>if a=p then none else H a
theorem ji{p a:aa}{H:Hp}{o:HO}(h:H a=some o)(n:a≠p):Wp p H a=some o:=by
 unfold Wp;rw[if_neg n];exact h
theorem rX{p a:aa}{H:Hp}{o:HO}(h:Wp p H a=some o):a≠p/\H a=some o:=by
 unfold Wp at h
 by_cases c:a=p
 ·rw[if_pos c]at h
  cases h
 ·rw[if_neg c]at h;exact⟨c,h⟩
theorem But.wp{p:aa}{H H':Hp}(b:But p H H'):bh (Wp p H) (Wp p H'):=fun a o e=>by
 obtain⟨n,h⟩:=rX e;exact ji (b _ _ h n) n
theorem pK(p:aa)(H:Hp):bh (Wp p H) H:=fun a o e=>(rX e).2
theorem kj{p:aa}{G F:Hp}(s:bh G F):bh (Wp p G) (Wp p F):=fun a o e=>ji (s _ _ (rX e).2) (rX e).1
structure Rn(CM:aa)(Ms:List MD)(es:List Ev)(H:Hp)(m sgl:aa):Prop where
 mo:vB CM Ms H m
 lm:Ms.length<1000
 sg:∃svs,H sgl=some (.lst svs)/\aK (mI H) svs es
 le:es.length<64
 ev:∀e∈es,qR Ms.length e
theorem Rn.same{CM:aa}{Ms:List MD}{es:List Ev}{H G:Hp}{m Z:aa}(s:bh H G)(h:Rn CM Ms es H m Z):Rn CM Ms es G m Z:=by
 obtain⟨Y,h1,h2⟩:=h.sg;exact{h.mo.same s,h.lm,{Y,s _ _ h1,Paired.mono (fun _ _ z=>z.same s) h2},h.le,h.ev}
def lB(m s e k:V):List (Str×V):=[("model",m),("signs",s),("every",e),("kept",k)]
structure KeT(K:af)(mg:Str->Option ae)(CK:aa):Prop where
 cl:Cls K CK
 nM:eM K CK "model"
 nS:eM K CK "signs"
 nE:eM K CK "every"
 nK:eM K CK "kept"
 m:mg "Keeper"=some (.ref CK)
theorem ke_m(m s e k:V):(lB m s e k).lookup ("model":Str)=some m:=rfl
theorem ke_s(m s e k:V):(lB m s e k).lookup ("signs":Str)=some s:=rfl
theorem ke_e(m s e k:V):(lB m s e k).lookup ("every":Str)=some e:=rfl
theorem K8(m s e k:V):(lB m s e k).lookup ("kept":Str)=some k:=rfl
theorem OD(m s e k:V):(lB m s e k).length<1000:=by show 4<1000;decide
theorem La(m s e k k':V):cJ "kept" k' (lB m s e k)=lB m s e k':=rfl
theorem yC(m s e k:V){x:Str}(hx:(["model","signs","every","kept"]:List Str).contains x=false):(lB m s e k).lookup x=none:=by
 have z:∀k∈(["model","signs","every","kept"]:List Str),(x==k)=false:=fun k hk=>beq_eq_false_iff_ne.mpr fun e=>by
  rw[e,kH.mpr hk]at hx
  cases hx
 unfold lB;rw[dX (z _ (by simp)),dX (z _ (by simp)),dX (z _ (by simp)),dX (z _ (by simp))];rfl
structure Kpt(CC CS m:aa)(Ms:List MD)(es:List Ev)(F:Hp)(kvs:List (Key×V)):Prop where
 at_:∀q∈kvs,∃(n:Nat) (c:aa) (r:RS),q=(Sum.inl (n:Int),V.ref c)/\CoK CC CS m F c r/\Rst Ms r/\Mrk Ms es n r/\r.pd.length<=900000
 nd:(kvs.map (·.1)).Nodup
 few:kvs.length<=50
theorem Kpt.same{CC CS m:aa}{Ms:List MD}{es:List Ev}{F G:Hp}{kvs:List (Key×V)}(s:bh F G)(h:Kpt CC CS m Ms es F kvs):Kpt CC CS m Ms es G kvs:=⟨fun q hq=>by
 obtain⟨n,c,r,e,h1,h2⟩:=h.at_ q hq;exact{n,c,r,e,h1.same s,h2},h.nd,h.few⟩
def kK(kvs:List (Key×V)):List Int:=kvs.map fun q=>match q.1 with
 |.inl n=>n
 |.inr _=>0
theorem Kpt.keys{CC CS m:aa}{Ms:List MD}{es:List Ev}{F:Hp}{kvs:List (Key×V)}(h:Kpt CC CS m Ms es F kvs):kvs.map (·.1)=(kK kvs).map Sum.inl:=by
 unfold kK;rw[dA];refine ie fun q hq=>?_;obtain⟨n,c,r,e,_⟩:=h.at_ q hq;rw[e];rfl
theorem Lb{kvs:List (Key×V)}{k:Key}{v:V}(h:jQ kvs k=some v):(k,v)∈kvs:=by
 unfold jQ at h;obtain⟨p,hp,rfl⟩:=jO.mp h;have h1:=List.mem_of_find?_eq_some hp;have h2:=List.find?_some hp;have:p.1=k:=by simpa using h2
 rw[<- this];exact h1
structure zH(CK CC CM CS:aa)(Ms:List MD)(es:List Ev)(F:Hp)(k m sl kd:aa)(ev:Int)(kvs:List (Key×V)):Prop where
 ob:∃dx,F k=some (.ins CK dx (lB (.ref m) (.ref sl) (.int ev) (.ref kd)))
 rn:Rn CM Ms es F m sl
 dk:F kd=some (.dK kvs)
 kk:Kpt CC CS m Ms es F kvs
theorem zH.same{CK CC CM CS:aa}{Ms:List MD}{es:List Ev}{F G:Hp}{k m sl kd:aa}{ev:Int}{kvs:List (Key×V)}(s:bh F G)(h:zH CK CC CM CS Ms es F k m sl kd ev kvs):zH CK CC CM CS Ms es G k m sl kd ev kvs:=by
 obtain⟨dx,h1⟩:=h.ob;exact{{dx,s _ _ h1},h.rn.same s,s _ _ h.dk,h.kk.same s}
section
variable{P:aM}{w:bO}{K:af}{mg:Str->Option ae}{base:cC}{f fCp fCf fR CK CC CM CS CN:aa}{fd fdCp fdCf fdR:bX}
seal PS PSs PE PA PT PW PI PG PGs PC
abbrev nKm:List Str:=["self"]
abbrev pKm:List Str:=["self"]
theorem scKm:bN nKm pKm (aL iH):={}
inductive Mp(CK:aa)(vs:List V)(H:Hp)(Q:VK)(_e:XK):Prop where
 |mk(k kd dx:aa)(m s e:V)(kvs:List (Key×V))(ns:List Int)(_:vs=[.ref k])(_:H k=some (.ins CK dx (lB m s e (.ref kd))))(_:H kd=some (.dK kvs))(_:kvs.map (·.1)=ns.map Sum.inl)(_:ns.length<64)(_:∀(l:aa) (ns':List Int),H l=none->ns'.Perm ns->ns'.Pairwise (·<=·)->Q (.ref l) (upd H l (.lst (ns'.map V.int)))):Mp CK vs H Q _e
def spKm(CK:aa):Sp:=fun vs H Q Z=>Mp CK vs H Q Z
theorem ok_km(F:Fun K "marks" "Keeper.marks" iH f fd)(T:KeT K mg CK)(Y:mg "sorted"=none):bL P w K mg base CX0 1 f fd pKm (spKm CK):=by
 refine F.ok scKm (fun vs H Q E h=>?_) (fun Z A outer s H vs Q E hr h=>?_)
 ·obtain⟨k,kd,dx,m,s',e,kvs,ns,rfl,_⟩:=h;rfl
 obtain⟨k,kd,dx,m,s',e,kvs,ns,rfl,h1,h2,W,V,q⟩:=h;refine{_,aA (bE (cb (zF rfl) (by rfl) Y PyProof.Rows.boot_sorted (aq (d7 K (by rfl) (pv 0) (by rfl)) ag))),?_};exact eW {_,rfl,k,CK,dx,_,_,rfl,h1,T.cl,T.nK,K8 _ _ _ _,kd,ns,kvs,rfl,h2,W,V,q}
abbrev nKc:List Str:=["self","number"]
abbrev pKc:List Str:=["self","number"]
theorem scKc:bN nKc pKc (aL eY):={}
inductive Mq(CK CC CM CS CN:aa)(vs:List V)(H:Hp)(Q:VK)(E:XK):Prop where
 |mk(Ms:List MD)(es:List Ev)(k m sl kd:aa)(ev n:Int)(kvs:List (Key×V))(_:vs=[.ref k,.int n])(_:zH CK CC CM CS Ms es H k m sl kd ev kvs)(_:(n∉kK kvs->E (.ref CN) none H))(_:∀(G:Hp) (c' sl' pl':aa) (nn:Nat) (r:RS),n∈kK kvs->n=nn->Mrk Ms es nn r->r.pd.length<=900000->iC CC CS Ms H ⟨[c',sl',pl'],H⟩ G c' m sl' pl' r->Q (.ref c') G):Mq CK CC CM CS CN vs H Q E
def OE(CK CC CM CS CN:aa):Sp:=fun vs H Q E=>Mq CK CC CM CS CN vs H Q E
theorem Mr(F:Fun K "course_from" "Keeper.course_from" eY f fd)(Y:Mt K CC "copy" "Course.copy" gX pCc fCp fdCp)(W:bL P w K mg base CX0 4 fCp fdCp pCc (IU CC CS))(T:KeT K mg CK)(TC:CoT K mg CC)(mN:mg "NoMark"=some (.ref CN))(xN:cT K CN o6 "ValueError.__new__"=true):bL P w K mg base (CXo P w) 5 f fd pKc (OE CK CC CM CS CN):=by
 refine F.okX scKc (fun vs H Q E h=>?_) (fun bv A outer s H vs Q E hr h=>?_)
 ·obtain⟨Ms,es,k,m,sl,kd,ev,n,kvs,rfl,_⟩:=h;rfl
 obtain⟨Ms,es,k,m,sl,kd,ev,n,kvs,rfl,hk,g,q⟩:=h;have Z:=mO hr;have r4:cZ 4 _:=hr;refine⟨_,ah (cH (qe (EG Z (pv 1) (d7 K (by rfl) (pv 0) (by rfl)))) (aA (jG dR rfl rfl mN xN ((dS bS ag)))) bP)
  (aA (bE (jb (rp Z (d7 K (by rfl) (pv 0) (by rfl)) (pv 1) (fun _ _=>rfl)) TC.cl Y.m W r4 Y.b .nil bC))),?_⟩
 have big:=d9;obtain⟨dx,ob⟩:=hk.ob;have dg:pZ H kd (.int n) (jQ kvs (Sum.inl n)):=pZ.k (k:=Sum.inl n) hk.dk;refine bU (fh {_,rfl,_,rfl,k,CK,dx,_,_,rfl,ob,T.cl,T.nK,K8 _ _ _ _,kd,_,rfl,dg,_,rfl,?_});have key:=hk.kk.keys
 cases e:jQ kvs (Sum.inl n) with
 |none=>
  refine gG {B3,g fun z=>?_};refine Gj e ?_;rw[key];exact jh z
 |some v=>
  refine eE ?_;dsimp only[jq];have mem:=Lb e;have nm:n∈kK kvs:=by
   have:=jh (f:=(·.1)) mem;rw[key]at this;obtain⟨x,hx,J⟩:=cD.mp this
   cases J;exact hx
  obtain⟨nn,c,r,eq,h1,h2,h3,h4⟩:=hk.kk.at_ _ mem
  cases eq;rw[e]at dg;obtain⟨U,bz,I,rv,sv,ss,ps,g1,_⟩:=id h1;refine eW {_,rfl,k,CK,dx,_,_,rfl,ob,T.cl,T.nK,K8 _ _ _ _,_,rfl,kd,_,rfl,dg,c,U,_,rfl,g1,xg _ _ _ _ _ (by decide +kernel),Ms,c,m,r,rfl,h1,h2,hk.rn.lm,by omega,fun G D V O C=>q G D V O nn r nm rfl h3 h4 C}
abbrev nKg:List Str:=["self","number","most"]
abbrev pKg:List Str:=["self","number","most"]
theorem scKg:bN nKg pKg (aL iI):={}
inductive Mu(CK CC CM CS CN:aa)(vs:List V)(H:Hp)(Q:VK)(E:XK):Prop where
 |mk(Ms:List MD)(es:List Ev)(k m sl kd:aa)(ev n most:Int)(kvs:List (Key×V))(_:vs=[.ref k,.int n,.int most])(_:zH CK CC CM CS Ms es H k m sl kd ev kvs)(_:most<=1000)(_:(n∉kK kvs->E (.ref CN) none H))(_:∀(G:Hp) (t rl:aa) (en:V) (rvs:List V) (nn i:Nat) (r:RS) (e:End),n∈kK kvs->n=nn->Mrk Ms es nn r->jd Ms r most i e->bh H G->G t=some (.tup [.ref rl,en])->G rl=some (.lst rvs)->H rl=none->aK (RcIn G) rvs (itR Ms r i).2->lA G en e->Q (.ref t) G):Mu CK CC CM CS CN vs H Q E
def spKg(CK CC CM CS CN:aa):Sp:=fun vs H Q E=>Mu CK CC CM CS CN vs H Q E
theorem ok_kg(F:Fun K "go_on" "Keeper.go_on" iI f fd)(V:Mt K CK "course_from" "Keeper.course_from" eY pKc fCf fdCf)(g:bL P w K mg base (CXo P w) 5 fCf fdCf pKc (OE CK CC CM CS CN))(O:Df K mg "run_on" lT ["course","most"] fR fdR)(GR:bL P w K mg base CX0 39 fR fdR ["course","most"] (AL CC CM CS))(T:KeT K mg CK):bL P w K mg base (CXo P w) 40 f fd pKg (spKg CK CC CM CS CN):=by
 refine F.okX scKg (fun vs H Q E h=>?_) (fun bF A outer s H vs Q E hr h=>?_)
 ·obtain⟨Ms,es,k,m,sl,kd,ev,n,Z,kvs,rfl,_⟩:=h;rfl
 obtain⟨Ms,es,k,m,sl,kd,ev,n,Z,kvs,rfl,hk,hm,no,q⟩:=h;have r5:cZ 5 _:=hr.mono (by decide);have I:cZ 39 _:=hr;refine{_,aA (bE (aI GR I (by rfl) O.m O.F.kp O.b .nil bC (iz (gj (pv 0) T.cl V.m g r5 V.b .nil (dR.passes fun _ _ _ z=>z) (aR (pv 1) ag)) (aR (pv 2) ag)))),?_};obtain⟨dx,ob⟩:=hk.ob;refine eW {_,rfl,k,dx,_,rfl,ob,yC _ _ _ _ (by decide +kernel),_,rfl,Ms,es,k,m,sl,kd,ev,n,kvs,rfl,hk,no,fun G c' Y W nn r nm en hM lp C=>?_};refine{_,rfl,Ms,H,_,c',m,Y,W,r,Z,rfl,hk.rn.mo,C,hm,by omega,fun G2 t i e R=>?_};obtain⟨rl,env,J,g1,D,_,g3,g4⟩:=R.rs;have sH:bh H G2:=fun a o e=>(R.cc.sm a o e).2.2.2;have U:H rl=none:=by
  cases z:H rl with
  |none=>rfl
  |some o=>
   refine absurd (.inr {o,z,fun xs y=>?_}:rl∈({[c',Y,W],H}:Ex)) (gO D);have:=cW _ _ D;rw[sH _ _ z,y]at this
   cases this
 exact q G2 t rl env J nn i r e nm en hM R.st sH (cW _ _ g1) (cW _ _ D) U (Paired.mono (fun _ _ z=>z.same cW) g3) (g4.same cW)
end
theorem IY{kvs:List (Key×V)}{k:Key}{v:V}(h:k∉kvs.map (·.1)):iW kvs k v=kvs++[(k,v)]:=Aa v (by
 cases z:jQ kvs k with
 |none=>rfl
 |some x=>exact absurd (CH z) h)
def MoT(CM:aa)(Ms:List MD)(H:Hp)(m:aa):Prop:=∃(dx Z:aa) (fs:List (Str×V)),H m=some (.ins CM dx fs)/\fs.lookup ("machines":Str)=some (.ref Z)/\zt (Ms.length:Int) H Z Ms/\Tree H 29 (.ref Z)
theorem MoT.at{CM:aa}{Ms:List MD}{H:Hp}{m:aa}(h:MoT CM Ms H m):vB CM Ms H m:=by
 obtain⟨dx,Z,fs,h1,h2,Y,_⟩:=h;exact⟨dx,Z,fs,h1,h2,Y⟩
theorem Tree.mono{H G:Hp}(s:bh H G):∀{n:Nat} {v:V},Tree H n v->Tree G n v
 |0,_,h=>h
 |n+1,v,h=>by
  rcases h with h|⟨p,xs,e,h1,h2,Z⟩
  ·exact .inl h
  ·exact .inr {p,xs,e,h1.imp (s _ _) (s _ _),h2,fun x hx=>Tree.mono s (Z x hx)}
theorem MoT.same{CM:aa}{Ms:List MD}{H G:Hp}{m:aa}(s:bh H G)(h:MoT CM Ms H m):MoT CM Ms G m:=by
 obtain⟨dx,Z,fs,h1,h2,Y,W⟩:=h;exact{dx,Z,fs,s _ _ h1,h2,Y.same s,W.mono s}
theorem Alike.tree{H H':Hp}:∀{n:Nat} {v Z:V},Tree H n v->Alike H H' n v Z->Tree H' n Z
 |0,v,Z,h,a=>by
  rw[show Z=v from a];exact h
 |n+1,v,Z,h,a=>by
  rcases a with⟨h1,rfl⟩|⟨p,Y,xs,ys,rfl,rfl,h1,h2,r⟩|⟨p,Y,xs,ys,rfl,rfl,h1,h2,r⟩
  ·exact .inl h1
  all_goals
   rcases h with h|⟨q,zs,e,e1,O,e3⟩
   ·cases h
   ·cases e;have U:zs=xs:=by
     rcases e1 with e1|e1
     all_goals
      rw[h1]at e1
      cases e1
      try rfl
    subst U;refine .inr {Y,ys,rfl,?_,by rw[<- aZ r];exact O,fun y hy=>?_}
    ·first
      |exact .inl h2
      |exact .inr h2
    ·obtain⟨j,W⟩:=dI hy;obtain⟨x,hx,z⟩:=jx r W;exact Alike.tree (e3 x (cB hx)) z
theorem IZ{m:Int}{H H2:Hp}{W:aa}{Ms:List MD}{Y:V}(h:zt m H W Ms)(t:Tree H 29 (.ref W))(U:Alike H H2 29 (.ref W) Y):∃Z,Y=.ref Z/\zt m H2 Z Ms/\Tree H2 29 (.ref Z):=by
 have t':=Alike.tree t U;obtain⟨xs,h0,p⟩:=h;obtain⟨Z,ys,rfl,h1,O⟩:=oF h0 U;refine⟨Z,rfl,⟨ys,h1,rB (R:=MoI m H) (S:=Alike H H2 28) (T:=Tree H 28) (fun v M Y z b c=>?_) p O fun x hx=>?_⟩,t'⟩
 ·exact⟨z.ma.alike c b,z.fs.alike b,z.kb,z.nb,z.nq,z.lb,z.lq,z.ld,z.lh,z.wb,z.hk⟩
 ·rcases t with t|⟨q,zs,e,e1,J,e3⟩
  ·cases t
  ·cases e
   rcases e1 with e1|e1
   ·rw[h0]at e1
    cases e1;exact e3 x hx
   ·rw[h0]at e1
    cases e1
theorem OF{CM:aa}{G H2 G':Hp}{m Z k:aa}{O:V}(U:Z≠m)(hk:G k≠none)(b:But k (upd H2 m (.ins CM Z (cJ "machines" O []))) G'):bh (Nw (upd (upd G Z (.own m)) m (.ins CM Z [])) H2) (Hid ⟨[],G⟩ G'):=fun a o e=>by
 have n:(upd (upd G Z (.own m)) m (.ins CM Z [])) a=none:=by
  unfold Nw at e
  by_cases c:(upd (upd G Z (.own m)) m (.ins CM Z [])) a=none
  ·exact c
  ·rw[if_neg c]at e
   cases e
 have Y:a≠m:=fun z=>by
  rw[z,aj]at n
  cases n
 have W:a≠Z:=fun z=>by
  rw[z,aN U,aj]at n
  cases n
 have ga:G a=none:=by
  rw[aN Y,aN W]at n;exact n
 rw[eg (iT ga)];exact b _ _ (by rw[aN Y];exact nw_le _ _ e) fun z=>hk (z ▸ ga)
theorem mo_h{CM:aa}{Ms:List MD}{G H2 G':Hp}{m Z Y k:aa}(nm:G m=none)(W:Z≠m)(hk:G k≠none)(mo:zt (Ms.length:Int) (Nw (upd (upd G Z (.own m)) m (.ins CM Z [])) H2) Y Ms)(t:Tree (Nw (upd (upd G Z (.own m)) m (.ins CM Z [])) H2) 29 (.ref Y))(b:But k (upd H2 m (.ins CM Z (cJ "machines" (.ref Y) []))) G'):MoT CM Ms (Hid {[],G} G') m:=by
 have s:=OF W hk b;exact{Z,Y,_,by rw[eg (iT nm)];exact b _ _ aj (fun z=>hk (z ▸ nm)),rfl,mo.same s,t.mono s}
section
variable{P:aM}{w:bO}{K:af}{mg:Str->Option ae}{base:cC}{f fMI fCa CK CC CM CS:aa}{fd fdMI fdCa:bX}
seal PS PSs PE PA PT PW PI PG PGs PC
inductive spKtI(CK CC CS:aa)(vs:List V)(H:Hp)(Q:VK)(_e:XK):Prop where
 |mk(F:Hp)(Ms:List MD)(es:List Ev)(mo k kd dx:aa)(m s e:V)(num:Int)(kvs:List (Key×V))(_:vs=[.ref k,.int num])(_:H k=some (.ins CK dx (lB m s e (.ref kd))))(_:Wp k H kd=some (.dK kvs))(_:Kpt CC CS mo Ms es F kvs)(_:∀(G:Hp) (kd':aa) (kvs':List (Key×V)),But k H G->G k=some (.ins CK dx (lB m s e (.ref kd')))->G kd'=some (.dK kvs')->H kd'=none->Kpt CC CS mo Ms es F kvs'->Q .non G):spKtI CK CC CS vs H Q _e
abbrev nKi:List Str:=["self","model","signs","every"]
abbrev pKi:List Str:=["self","model","signs","every"]
theorem scKi:bN nKi pKi (aL nV):={}
inductive Mv(CK CM:aa)(vs:List V)(H:Hp)(Q:VK)(_e:XK):Prop where
 |mk(Ms:List MD)(es:List Ev)(k dx m0 sg:aa)(ev:Int)(_:vs=[.ref k,.ref m0,.ref sg,.int ev])(_:H k=some (.ins CK dx []))(_:MoT CM Ms H m0)(_:Rn CM Ms es H m0 sg)(_:1<=ev)(_:ev<=100)(_:∀(G:Hp) (m sl:aa) (v:V),But k H G->G k=some (.ins CK dx (lB (.ref m) (.ref sl) (.int ev) v))->Rn CM Ms es (Hid ⟨[],H⟩ G) m sl->Q .non G):Mv CK CM vs H Q _e
def OG(CK CM:aa):Sp:=fun vs H Q Z=>Mv CK CM vs H Q Z
theorem ok_ki(F:Fun K "__init__" "Keeper.__init__" nV f fd)(dV:Mk K CM fMI)(ed:bL P w K mg base CX0 31 fMI fdMI ["self","machines"] (NR CM 29))(dv:Binds K fdMI ["self","machines"] [])(J:Df K mg "course_at_first" fv ["model","signs"] fCa fdCa)(dG:bL P w K mg base CX0 4 fCa fdCa ["model","signs"] (DJ CC CM CS))(T:KeT K mg CK)(TM:MdT K mg CM CS)(B:Bl mg):bL P w K mg base CX0 33 f fd pKi (OG CK CM):=by
 refine F.ok scKi (fun vs H Q E h=>?_) (fun dc A outer s H vs Q E hr h=>?_)
 ·obtain⟨Ms,es,k,dx,m0,sg,ev,rfl,_⟩:=h;rfl
 obtain⟨Ms,es,k,dx,m0,sg,ev,rfl,hk,hM,I,e1,e2,q⟩:=h;have de:=mO hr;have r4:cZ 4 _:=hr.mono (by decide);have ea:cZ 32 _:=hr;refine⟨_,ah (eT (pv 0) (j8 dV ed ea (by rfl) TM.mM dv .nil bC (aq (d7 K (by rfl) (pv 1) (by rfl)) ag)) rfl)
  (ah (eT (pv 0) (hZ (AI K (by rfl)) (by rfl) B.list boot_list (aR (pv 2) ag)) rfl)
  (ah (eT (pv 0) (cb (um rfl) (by rfl) B.max boot_max (aR (pv 3) (dS av ag))) rfl)
  (aA (eT (pv 0) (CA (Af av (aI dG r4 (by rfl) J.m J.F.kp J.b .nil bC (aq (d7 K (by rfl) (pv 0) (by rfl)) (aq (d7 K (by rfl) (pv 0) (by rfl)) ag))) Cz) rfl rfl (by simp) (by decide)) rfl)))),?_⟩
 have big:=d9;obtain⟨ec,ml,fs,g1,g2,g3,g4⟩:=hM;obtain⟨Z,D,eb⟩:=I.sg;refine bU (uI ?_);refine{_,rfl,m0,CM,ec,_,_,rfl,g1,TM.clM,TM.nM,g2,fun m W hm eh ej=>?_};have sA:bh H (upd (upd H W (.own m)) m (.ins CM W [])):=fun b o e=>by
  rw[aN (aw e hm),aN (aw e eh)];exact e
 refine{m,W,.ref ml,rfl,aj,g4.mono sA,fun v' G5 s5 al=>{rfl,?_}};obtain⟨V,rfl,ef,ek⟩:=IZ (g3.same sA) (g4.mono sA) al;have kn:H k≠none:=fun z=>by
  rw[hk]at z
  cases z
 have dj:m≠k:=(aw hk hm).symm;have U:bh H (upd G5 m (.ins CM W (cJ "machines" (.ref V) []))):=tQ (sA.trans s5) hm _;have mo:∀{G:Hp},But k (upd G5 m (.ins CM W (cJ "machines" (.ref V) []))) G->vB CM Ms (Hid {[],H} G) m:=fun b=>(mo_h hm ej kn ef ek b).at;revert mo U;generalize upd G5 m (.ins CM W (cJ "machines" (.ref V) []))=GM;intro U mo;clear ef ek al s5 sA eh ej;refine{_,rfl,k,CK,dx,_,rfl,U _ _ hk,T.cl,T.nM,(by show 0<1000;decide),?_};have b1:But k GM (upd GM k (.ins CK dx (cJ "model" (.ref m) []))):=But.upd k GM _;have dt:sg≠k:=fun z=>by
  rw[z,hk]at D
  cases D
 refine bU {_,rfl,sg,Z,rfl,.inl (SqL.of (b1 _ _ (U _ _ D) dt)),fun sl Y=>{_,rfl,k,CK,dx,_,rfl,(aE Y (.lst Z)) _ _ aj,T.cl,T.nS,(by show 1<1000;decide),?_}};have dL:H sl=none:=by
  cases z:H sl with
  |none=>rfl
  |some o=>
   have y:=U _ _ z
   by_cases c:sl=k
   ·rw[c,aj]at Y
    cases Y
   ·rw[aN c,y]at Y
    cases Y
 have O:sl≠k:=(aw (aj:upd GM k (.ins CK dx (cJ "model" (.ref m) [])) k=_) Y).symm;refine bU {_,rfl,ev,1,rfl,_,rfl,k,CK,dx,_,rfl,aj,T.cl,T.nE,(by show 2<1000;decide),?_};rw[if_neg (by omega:¬(1:Int)>ev)];have qk:upd (upd (upd (upd GM k (.ins CK dx (cJ "model" (.ref m) []))) sl (.lst Z)) k (.ins CK dx (cJ "signs" (.ref sl) (cJ "model" (.ref m) [])))) k (.ins CK dx (cJ "every" (.int ev) (cJ "signs" (.ref sl) (cJ "model" (.ref m) [])))) k=some (.ins CK dx [("model",.ref m),("signs",.ref sl),("every",.int ev)]):=aj;have b4:But k GM (upd (upd (upd (upd GM k (.ins CK dx (cJ "model" (.ref m) []))) sl (.lst Z)) k (.ins CK dx (cJ "signs" (.ref sl) (cJ "model" (.ref m) [])))) k (.ins CK dx (cJ "every" (.int ev) (cJ "signs" (.ref sl) (cJ "model" (.ref m) []))))):=(((b1.same (aE Y _)).trans (But.upd k _ _)).trans (But.upd k _ _));have qs:upd (upd (upd (upd GM k (.ins CK dx (cJ "model" (.ref m) []))) sl (.lst Z)) k (.ins CK dx (cJ "signs" (.ref sl) (cJ "model" (.ref m) [])))) k (.ins CK dx (cJ "every" (.int ev) (cJ "signs" (.ref sl) (cJ "model" (.ref m) [])))) sl=some (.lst Z):=aW (aW aj O) O;revert qk b4 qs;generalize upd (upd (upd (upd GM k (.ins CK dx (cJ "model" (.ref m) []))) sl (.lst Z)) k (.ins CK dx (cJ "signs" (.ref sl) (cJ "model" (.ref m) [])))) k (.ins CK dx (cJ "every" (.int ev) (cJ "signs" (.ref sl) (cJ "model" (.ref m) []))))=G4;intro qk b4 qs;clear b1 Y;have rn:∀{G:Hp},But k G4 G->Rn CM Ms es (Hid {[],H} G) m sl:=fun b=>⟨mo (b4.trans b),I.lm,⟨Z,by rw[eg (iT dL)];exact b _ _ qs O,Paired.mono (fun v e ⟨t,e',h⟩=>by
  have nt:t≠k:=fun z=>by
   rw[z,hk]at h
   cases h
  refine{t,e',?_};rw[eg fun z=>?_]
  ·exact b _ _ (b4 _ _ (U _ _ h) nt) nt
  ·rcases z with z|⟨o,z,y⟩
   ·cases z
   ·have z:H t=some o:=z;rw[h]at z
    cases z;exact y _ rfl) eb⟩,I.le,I.ev⟩
 refine fun d hd=>?_;have sd:=aE hd (.dK []);have R5:=(rn (But.same (But.refl k G4) sd)).same cW;obtain⟨ee,ei,g⟩:=R5.sg;refine{_,rfl,k,CK,dx,_,_,rfl,sd _ _ qk,T.cl,T.nM,rfl,_,rfl,k,CK,dx,_,_,rfl,sd _ _ qk,T.cl,T.nS,rfl,Ms,m,sl,ee,es,rfl,R5.mo,I.lm,ei,g,I.le,I.ev,fun G6 co dn di C=>?_};have s6:bh (upd G4 d (.dK [])) G6:=fun a o e=>(C.sm a o e).2.2.2;refine{s6 _ _ aj,[(Sum.inl 0,.ref co)],rfl,(by show 1<=15;decide),?_};have dz:k≠d:=aw qk hd;refine{_,rfl,k,CK,dx,_,rfl,aW ((sd.trans s6) _ _ qk) dz,T.cl,T.nK,(by show 3<1000;decide),?_};have b7:But k G4 (upd (upd G6 d (.dK (lO [] [(Sum.inl 0,.ref co)]))) k (.ins CK dx (lB (.ref m) (.ref sl) (.int ev) (.ref d)))):=fun b o e nb=>aW (aW ((sd.trans s6) _ _ e) (aw e hd)) nb;exact q _ m sl (.ref d) (fun b o e nb=>b7 _ _ (b4 _ _ (U _ _ e) nb) nb) aj (rn b7)
end
theorem Ce{Y Z:Type}{F:Y->Z->Prop}{xs zs:List Y}{ys us:List Z}(h:aK F xs ys)(z:aK F zs us):aK F (xs++zs) (ys++us):=by
 induction h with
 |nil=>exact z
 |cons x _ W=>exact .cons x W
theorem yD:eS "min"=some (.builtin "min"):=by decide +kernel
theorem Eg{Ms:List MD}{r:RS}(mo:p5 Ms){Z:Int}:∀{i:Nat},(∀j,j<i->ROk Ms.length (itR Ms r j).1/\gN (itR Ms r j).1 (Z-(itR Ms r j).2.length)=none)->(itR Ms r i).1.pd.length<=r.pd.length+5000*(itR Ms r i).2.length
 |0,_=>w5 _ _
 |i+1,h=>by
  have a:=Eg mo (i:=i) fun j Y=>h j (by omega);have q:=h i (by omega);have b:=(tU (kg mo q.1 (gx q.2).2.1)).1;show (eJ Ms (itR Ms r i).1).1.pd.length<=r.pd.length+5000*((itR Ms r i).2++(eJ Ms (itR Ms r i).1).2).length;rw[ay];omega
theorem I9{r:RS}{k k':Int}{e:End}(h:gN r k=some e)(c:e≠.cut\/k'<=0):∃Z,gN r k'=some Z:=by
 unfold gN at h |-
 split at h
 ·exact{_,rfl}
 ·split at h
  ·rename_i y
   rw[if_pos y];exact{_,rfl}
  ·rename_i y
   rw[if_neg y]
   split at h
   ·cases h
    rcases c with c|c
    ·exact absurd rfl c
    ·rw[if_pos c];exact{_,rfl}
   ·cases h
theorem Lc{r:RS}{k:Int}(h:gN r k=some .cut):k<=0:=by
 unfold gN at h
 split at h
 ·cases h
 ·split at h
  ·cases h
  ·split at h
   ·assumption
   ·cases h
abbrev kx(H:Hp)(k co s p d rl:aa):Ex:={[k,co,s,p,d,rl],H}
theorem Mw{H:Hp}{k co s p d rl a:aa}(h:a∈kx H k co s p d rl):(a=k\/a=co\/a=s\/a=p\/a=d\/a=rl)\/∃o,H a=some o/\∀xs,o≠.tup xs:=by
 rcases h with h|h
 ·have h:a∈[k,co,s,p,d,rl]:=h;exact .inl (by simpa using h)
 ·exact .inr h
theorem iC.kx{CC CS:aa}{Ms:List MD}{Hb G:Hp}{c m sl pl:aa}{r:RS}{ex:Ex}(h:iC CC CS Ms Hb {[c,sl,pl],Hb} G c m sl pl r)(n:∀a∈ex,∃o,Hb a=some o/\∀xs,o≠.tup xs):CoK CC CS m (Hid ex G) c r:=by
 obtain⟨dx,rv,D,h1,h2,H⟩:=h.hc;obtain⟨O,U,W⟩:=h.hs;obtain⟨ps,V,I⟩:=h.hp;have s:bh (Hid {[c,sl,pl],Hb} G) (Hid ex G):=fun a o e=>by
  have Y:a∉ex:=fun z=>by
   obtain⟨o',Z,q⟩:=n a z;exact gO e (.inr ⟨o',Z,q⟩)
  rw[eg Y];exact cW _ _ e
 have v:∀{a:aa} {o:HO},a∉ex->G a=some o->Hid ex G a=some o:=fun Y e=>by
  rw[eg Y];exact e
 have J:c∉ex:=fun z=>by
  obtain⟨o',Z,_⟩:=n _ z;exact (h.sm _ _ Z).1 rfl
 have ns:sl∉ex:=fun z=>by
  obtain⟨o',Z,_⟩:=n _ z;exact (h.sm _ _ Z).2.1 rfl
 have np:pl∉ex:=fun z=>by
  obtain⟨o',Z,_⟩:=n _ z;exact (h.sm _ _ Z).2.2.1 rfl
 exact{dx,sl,pl,rv,D,O,ps,v J h1,h2.same s,H.same s,v ns U,Paired.mono (fun _ _ z=>jS.same' s z) W,v np V,Paired.mono (fun _ _ z=>z.same s) I}
def oS(q:Nat)(ev:Int):List Key:=(kL (q+1)).map fun j=>Sum.inl ((j*ev.toNat:Nat):Int)
theorem Ja{q:Nat}{ev:Int}:oS (q+1) ev=oS q ev++[Sum.inl (((q+1)*ev.toNat:Nat):Int)]:=by
 unfold oS;rw[List.range_succ,cw];rfl
theorem Mrk.stops{Ms:List MD}{es:List Ev}{n i:Nat}{r:RS}{k Z:Int}{e Y:End}(m:Mrk Ms es n r)(s:jd Ms r k i e)(l:k<=Z-n)(d:gN (itR Ms r i).1 (Z-(n+(itR Ms r i).2.length:Nat))=some Y)(hm:(n:Int)<Z):jd Ms (cS Ms es) Z (n+i) Y/\(itR Ms (cS Ms es) (n+i)).2=(itR Ms (cS Ms es) n).2++(itR Ms r i).2:=by
 have W:=m.e;subst W;have add:=nj Ms (cS Ms es) n;have len:∀d,(itR Ms (cS Ms es) (n+d)).2.length=n+(itR Ms (itR Ms (cS Ms es) n).1 d).2.length:=fun d=>by
  rw[add d];show ((itR Ms (cS Ms es) n).2++_).length=_;rw[ay,m.l n (ax _)]
 refine{{fun j V=>?_,?_,?_},by rw[add i]}
 ·by_cases c:j<n
  ·have q:=m.d j c;refine{q.1,tX q.2 ?_};rw[m.l j (by omega)];omega
  ·obtain⟨d,rfl⟩:∃d,j=n+d:={j-n,by omega};have q:=s.1 d (by omega);rw[len d,add d];exact{q.1,tX q.2 (by omega)}
 ·rw[len i,add i];exact d
 ·rw[add i];exact s.2.2
structure Kfx(H:Hp)(k co s p d rl:aa)(ex:Ex):Prop where
 ik:k∈ex
 id:d∈ex
 ir:rl∈ex
 nd:Wp k H d=none
 nr:Wp k H rl=none
 k1:co≠k
 k2:s≠k
 k3:p≠k
 d1:co≠d
 d2:s≠d
 d3:p≠d
 r1:co≠rl
 r2:s≠rl
 r3:p≠rl
 kd:k≠d
 kr:k≠rl
 dr:d≠rl
structure Krn(CK CC CS:aa)(Ms:List MD)(es:List Ev)(H:Hp)(k dx m sg co s p d rl:aa)(ev most:Int)(ex:Ex)(G:Hp)(r:RS)(rvs:List V)(kvs:List (Key×V)):Prop where
 c:iC CC CS Ms (Wp k H) ex G co m s p r
 qk:G k=some (.ins CK dx (lB (.ref m) (.ref sg) (.int ev) (.ref d)))
 qd:G d=some (.dK kvs)
 qr:G rl=some (.lst rvs)
 kp:Kpt CC CS m Ms es (Hid (kx H k co s p d rl) G) kvs
 ku:∀q∈kvs,∀x:Int,q.1=Sum.inl x->x<=rvs.length
 kl:kvs.length<=rvs.length+1
 pd:r.pd.length<=64+5000*rvs.length
 le:(rvs.length:Int)<=most
theorem Krn.same{CK CC CS:aa}{Ms:List MD}{es:List Ev}{H:Hp}{k dx m sg co s p d rl:aa}{ev Z:Int}{ex:Ex}{G G':Hp}{r:RS}{Y:List V}{kvs:List (Key×V)}(s':bh G G')(h:Krn CK CC CS Ms es H k dx m sg co s p d rl ev Z ex G r Y kvs):Krn CK CC CS Ms es H k dx m sg co s p d rl ev Z ex G' r Y kvs:=
 {h.c.same s',s' _ _ h.qk,s' _ _ h.qd,s' _ _ h.qr,h.kp.same (gv s'),h.ku,h.kl,h.pd,h.le}
theorem Krn.kx{CK CC CS:aa}{Ms:List MD}{es:List Ev}{H:Hp}{k dx m sg co s p d rl:aa}{ev Z:Int}{ex:Ex}{G:Hp}{r:RS}{Y:List V}{kvs:List (Key×V)}(h:Krn CK CC CS Ms es H k dx m sg co s p d rl ev Z ex G r Y kvs):∀a∈My.kx H k co s p d rl,∃o,G a=some o/\∀xs,o≠.tup xs:=fun a ha=>by
 obtain⟨_,_,_,h1,_⟩:=h.c.hc;obtain⟨_,h2,_⟩:=h.c.hs;obtain⟨_,W,_⟩:=h.c.hp
 rcases Mw ha with (rfl|rfl|rfl|rfl|rfl|rfl)|⟨o,e,nt⟩
 ·exact{_,h.qk,fun xs z=>by cases z}
 ·exact{_,h1,fun xs z=>by cases z}
 ·exact{_,h2,fun xs z=>by cases z}
 ·exact{_,W,fun xs z=>by cases z}
 ·exact{_,h.qd,fun xs z=>by cases z}
 ·exact{_,h.qr,fun xs z=>by cases z}
 ·by_cases c:a=k
  ·rw[c];exact{_,h.qk,fun xs z=>by cases z}
  ·exact{o,(h.c.sm a o (ji e c)).2.2.2,nt}
section
variable{P:aM}{w:bO}{K:af}{mg:Str->Option ae}{base:cC}{f fCa fCp fE fR fBk CK CC CM CS CB:aa}{fd fdCa fdCp fdE fdR fdBk:bX}
seal PS PSs PE PA PT PW PI PG PGs PC
abbrev nKr:List Str:=["self","most","course","records","ending","told"]
abbrev pKr:List Str:=["self","most"]
theorem Ff:bN nKr pKr (aL jI):={}
inductive Mx(CK CC CM CS CB:aa)(vs:List V)(H:Hp)(Q:VK)(_e:XK):Prop where
 |mk(Ms:List MD)(es:List Ev)(k dx m sg:aa)(v:V)(ev most:Int)(_:vs=[.ref k,.int most])(_:H k=some (.ins CK dx (lB (.ref m) (.ref sg) (.int ev) v)))(_:Rn CM Ms es (Wp k H) m sg)(_:1<=ev)(_:ev<=100)(_:0<=most)(_:most<=40)(_:∀(G:Hp) (b dxb rl kd:aa) (en sv:V) (rvs:List V) (kvs:List (Key×V)) (i:Nat) (e:End),jd Ms (cS Ms es) most i e->Hid ⟨[],H⟩ G rl=some (.lst rvs)->aK (RcIn (Hid ⟨[],H⟩ G)) rvs (itR Ms (cS Ms es) i).2->lA (Hid ⟨[],H⟩ G) en e->kvs.map (·.1)=oS (rvs.length/ev.toNat) ev->But k H G->G b=some (.ins CB dxb (Ih (.ref rl) en sv))->G rl=some (.lst rvs)->rvs.length<=100->G k=some (.ins CK dx (lB (.ref m) (.ref sg) (.int ev) (.ref kd)))->Hid ⟨[],H⟩ G kd=some (.dK kvs)->Kpt CC CS m Ms es (Hid ⟨[],H⟩ G) kvs->Q (.ref b) G):Mx CK CC CM CS CB vs H Q _e
def spKr(CK CC CM CS CB:aa):Sp:=fun vs H Q Z=>Mx CK CC CM CS CB vs H Q Z
theorem ok_kr(F:Fun K "run" "Keeper.run" jI f fd)(my:Df K mg "course_at_first" fv ["model","signs"] fCa fdCa)(hT:bL P w K mg base CX0 4 fCa fdCa ["model","signs"] (DJ CC CM CS))(no:Mt K CC "copy" "Course.copy" gX pCc fCp fdCp)(lr:bL P w K mg base CX0 4 fCp fdCp pCc (IU CC CS))(ME:Mt K CC "ending_due" "Course.ending_due" fV ["self","left"] fE fdE)(GE:bL P w K mg base CX0 1 fE fdE ["self","left"] (Ol CC CS))
  (DR:Df K mg "run_on" lT ["course","most"] fR fdR) (GR:bL P w K mg base CX0 39 fR fdR ["course","most"] (AL CC CM CS)) (MB:Mk K CB fBk) (bB:Binds K fdBk ["self","records","ending","states"] []) (GB:bL P w K mg base CX0 1 fBk fdBk ["self","records","ending","states"] (Oe CB)) (T:KeT K mg CK) (TC:CoT K mg CC) (TB:BkT K mg CB) (B:Bl mg) (MM:mg "min"=none):bL P w K mg base CX0 40 f fd pKr (spKr CK CC CM CS CB):=by
 refine F.ok Ff (fun vs H Q E h=>?_) (fun hg A outer s H vs Q E hr h=>?_)
 ·obtain⟨Ms,es,k,dx,m,sg,v,ev,W,rfl,_⟩:=h;rfl
 obtain⟨Ms,es,k,dx,m,sg,v,ev,W,rfl,hk,hR,e1,e2,hP,hO,q⟩:=h;have jl:=mO hr;have r1:cZ 1 _:=hr.mono (by decide);have r2:cZ 2 _:=hr.mono (by decide);have r4:cZ 4 _:=hr.mono (by decide);have kt:cZ 39 _:=hr;refine⟨_,ah (bJ (i:=2) Ff.nd rfl (Or.inl rfl) (aI hT r4 (by rfl) my.m my.F.kp my.b .nil bC (aq (d7 K (by rfl) (pv 0) (by rfl)) (aq (d7 K (by rfl) (pv 0) (by rfl)) ag))))
  (ah (eT (pv 0) (CA (Af av (jb (pv 2) TC.cl no.m lr r4 no.b .nil bC) Cz) rfl rfl (by simp) (by decide)) rfl)
  (ah (bJ (i:=3) Ff.nd rfl (Or.inl rfl) (eU ag))
  (ah (bJ (i:=4) Ff.nd rfl (Or.inl rfl) (gj (pv 2) TC.cl ME.m GE r1 ME.b .nil bC (aR (pv 1) ag)))
  (ah (wx dC (qe (FB (pv 4))) (ah (bJ (i:=5) Ff.nd rfl (Or.inl rfl) (aI GR kt (by rfl) DR.m DR.F.kp DR.b .nil bC (aR (pv 2) (iz (cb (xW rfl) (by rfl) MM yD (aq (d7 K (by rfl) (pv 0) (by rfl)) (oR (cR jk (pv 1) (cb (eu K (by rfl)) (by rfl) B.len cu (aR (pv 3) ag))) ag))) ag))))
  (ah (e7 (pT cF PySem.F.slot_list_extend PySem.F.type_list_extend ED (pv 3) (pI (bY cA (pv 5) av (fun _ _=>rfl)) ag)))
  (ah (cH (bQ fc (cb (eu K (by rfl)) (by rfl) B.len cu (pI (bY cA (pv 5) av (fun _ _=>rfl)) ag)) (d7 K (by rfl) (pv 0) (by rfl)) (cq _)) (aA (mQ jl (d7 K (by rfl) (pv 0) (by rfl)) (cb (eu K (by rfl)) (by rfl) B.len cu (aR (pv 3) ag)) (jb (pv 2) TC.cl no.m lr r4 no.b .nil bC) rfl)) bP)
  (aA (bJ (i:=4) Ff.nd rfl (Or.inl rfl) (gj (pv 2) TC.cl ME.m GE r1 ME.b .nil bC (oR (cR jk (pv 1) (cb (eu K (by rfl)) (by rfl) B.len cu (aR (pv 3) ag))) ag))))))))
  (aA (bE (j8 MB GB r2 (by rfl) TB.m bB .nil bC (aR (pv 3) (aR (pv 4) (aq (d7 K (by rfl) (pv 2) (by rfl)) ag)))))))))),?_⟩
 have big:=d9;have mo:=hR.mo.ok;obtain⟨im,jn,io⟩:=hR.sg;have ov:=pK k H
 -- the course
 refine bU (cO {_,rfl,k,CK,dx,_,_,rfl,hk,T.cl,T.nM,ke_m _ _ _ _,_,rfl,k,CK,dx,_,_,rfl,hk,T.cl,T.nS,ke_s _ _ _ _,Ms,m,sg,im,es,rfl,hR.mo.same ov,hR.lm,ov _ _ jn,Paired.mono (fun _ _ z=>z.same ov) io,hR.le,hR.ev,fun G1 co s' I C1=>bK ?_});dsimp only;have kn:H k≠none:=fun z=>by
  rw[hk]at z
  cases z
 have nc:∀b o,H b=some o->b≠co/\b≠s'/\b≠I/\G1 b=some o:=C1.sm;obtain⟨md,lf,kB,mE⟩:=nc _ _ hk;have kG:k∈({[co,s',I],H}:Ex):=.inr {_,hk,fun xs z=>by cases z};have C1:=C1.weak ov
 -- the first mark
 refine bU fun d hd=>?_;have sd:=aE hd (.dK []);have C2:=C1.more hd (o:=.dK []) (fun xs z=>by cases z);obtain⟨kh,hD,hA,lw,_⟩:=id C2.hc;refine{_,rfl,co,kh,_,rfl,lw,xg _ _ _ _ _ (by decide +kernel),Ms,co,m,_,rfl,C2.k,C2.rst,hR.lm,?_,fun G2 c0 hI hz mW=>?_}
 ·show (l8 (pH es) []).length<=1000000;rw[(eI _ _).length_eq,cL,oQ];have:=hR.le;omega
 have s2:bh (upd G1 d (.dK [])) G2:=fun a o e=>(mW.sm a o e).2.2.2;have mc:=s2 _ _ (kS hd (.dK []));refine{mc,[(Sum.inl 0,.ref c0)],rfl,(by show 1<=15;decide),?_};have oc:k≠d:=aw mE hd;have mb:=(sd.trans s2) _ _ mE;refine{_,rfl,k,CK,dx,_,rfl,aW mb oc,T.cl,T.nK,OD _ _ _ _,?_};rw[La];have Hd:H d=none:=by
  cases z:H d with
  |none=>rfl
  |some o=>
   rw[(nc _ _ z).2.2.2]at hd
   cases hd
 have nd:Wp k H d=none:=by
  unfold Wp;rw[if_neg oc.symm];exact Hd
 have lz:d∈({[co,s',I],H}:Ex).add d:=Ex.here;have pi:co≠d/\s'≠d/\I≠d:=by
  obtain⟨_,_,_,y1,_⟩:=C1.hc;obtain⟨_,y2,_⟩:=C1.hs;obtain⟨_,y3,_⟩:=C1.hp;exact{aw y1 hd,aw y2 hd,aw y3 hd}
 have wk0:Wp k H k=none:=by
  unfold Wp;rw[if_pos rfl]
 have C3:=((C2.same s2).upd (a:=d) (o:=.dK (lO [] [(Sum.inl 0,.ref c0)])) lz nd pi.1 pi.2.1 pi.2.2 (fun xs z=>by cases z)).upd (a:=k) (o:=.ins CK dx (lB (.ref m) (.ref sg) (.int ev) (.ref d))) (Ex.more kG) wk0 md.symm lf.symm kB.symm (fun xs z=>by cases z);have pa:=(aj:upd (upd G2 d (.dK (lO [] [(Sum.inl 0,.ref c0)]))) k (.ins CK dx (lB (.ref m) (.ref sg) (.int ev) (.ref d))) k=_);have oD:upd (upd G2 d (.dK (lO [] [(Sum.inl 0,.ref c0)]))) k (.ins CK dx (lB (.ref m) (.ref sg) (.int ev) (.ref d))) d=some (.dK [(Sum.inl 0,.ref c0)]):=aW aj oc.symm;have K0:∀{ex':Ex} (_:∀a∈ex',a≠k->a≠d->∃o,upd G1 d (.dK []) a=some o/\∀xs,o≠.tup xs) (_:k∈ex') (_:d∈ex'),CoK CC CS m (Hid ex' (upd (upd G2 d (.dK (lO [] [(Sum.inl 0,.ref c0)]))) k (.ins CK dx (lB (.ref m) (.ref sg) (.int ev) (.ref d))))) c0 (cS Ms es):=fun hx ik id=>by
  rw[gW ik,gW id];refine mW.kx fun a ha=>?_
  by_cases c1:a=k
  ·rw[c1];exact{_,sd _ _ mE,fun xs z=>by cases z}
  ·by_cases c2:a=d
   ·rw[c2];exact{_,kS hd _,fun xs z=>by cases z}
   ·exact hx a ha c1 c2
 have K1:=K0 (ex':={[k,co,s',I,d],H}) (fun a ha c1 c2=>by
  obtain⟨_,_,_,y1,_⟩:=C2.hc;obtain⟨_,y2,_⟩:=C2.hs;obtain⟨_,y3,_⟩:=C2.hp
  rcases ha with ha|⟨o,e,nt⟩
  ·have ha:a∈[k,co,s',I,d]:=ha;simp only[ar,aV,or_false]at ha
   rcases ha with ha|rfl|rfl|rfl|ha
   ·exact absurd ha c1
   ·exact{_,y1,fun xs z=>by cases z}
   ·exact{_,y2,fun xs z=>by cases z}
   ·exact{_,y3,fun xs z=>by cases z}
   ·exact absurd ha c2
  ·exact{o,sd _ _ (nc _ _ e).2.2.2,nt}) (.inl (by simp)) (.inl (by simp))
 revert C3 pa oD K1;clear K0;generalize upd (upd G2 d (.dK (lO [] [(Sum.inl 0,.ref c0)]))) k (.ins CK dx (lB (.ref m) (.ref sg) (.int ev) (.ref d)))=G3;intro C3 pa oD K1
 -- the records
 dsimp only;refine bU (cO {cm _,fun rl D=>bK ?_});dsimp only;have sr:=aE D (.lst []);have C4:=C3.more D (o:=.lst []) (fun xs z=>by cases z);have mz:co≠rl/\s'≠rl/\I≠rl:=by
  obtain⟨_,_,_,y1,_⟩:=C3.hc;obtain⟨_,y2,_⟩:=C3.hs;obtain⟨_,y3,_⟩:=C3.hp;exact{aw y1 D,aw y2 D,aw y3 D}
 have nr:Wp k H rl=none:=by
  cases z:Wp k H rl with
  |none=>rfl
  |some o=>
   rw[(C3.sm _ _ z).2.2.2]at D
   cases D
 have O:Kfx H k co s' I d rl ((({[co,s',I],H}:Ex).add d).add rl):={Ex.more (Ex.more kG),Ex.more lz,Ex.here,nd,nr,md.symm,lf.symm,kB.symm,pi.1,pi.2.1,pi.2.2,mz.1,mz.2.1,mz.2.2,oc,aw pa D,aw oD D};have mr:=mrk_0 Ms es;have R4:Krn CK CC CS Ms es H k dx m sg co s' I d rl ev W ((({[co,s',I],H}:Ex).add d).add rl) (upd G3 rl (.lst [])) (cS Ms es) [] [(Sum.inl 0,.ref c0)]:=by
  refine{C4,sr _ _ pa,sr _ _ oD,aj,{fun x hx=>?_,cM.mpr {(fun z=>by cases z),iV},by show 1<=50;decide},fun x hx y e=>?_,ax _,?_,hP}
  ·rw[aD.mp hx];refine{0,c0,cS Ms es,rfl,K1.same fun a o e=>?_,C4.rst,mr,?_}
   ·have ha:=cW _ _ e;have ne:=aw ha D;rw[eg fun z=>?_]
    ·exact aW ha ne
    ·rcases Mw z with z|z
     case inr=>exact gO e (.inr z)
     refine gO e (.inl ?_);show a∈[k,co,s',I,d];simp only[ar,aV,or_false]
     rcases z with z|z|z|z|z|z
     ·exact .inl z
     ·exact .inr (.inl z)
     ·exact .inr (.inr (.inl z))
     ·exact .inr (.inr (.inr (.inl z)))
     ·exact .inr (.inr (.inr (.inr z)))
     ·exact absurd z ne
   ·show (l8 (pH es) []).length<=900000;rw[(eI _ _).length_eq,cL,oQ];have:=hR.le;omega
  ·rw[aD.mp hx]at e
   cases e;exact xr _
  ·show (l8 (pH es) []).length<=64+5000*0;rw[(eI _ _).length_eq,cL,oQ];have:=hR.le;omega
 revert R4;have old:∀{a:aa},(∃o,H a=some o/\∀xs,o≠.tup xs)->a∈((({[co,s',I],H}:Ex).add d).add rl):=fun z=>Ex.more (Ex.more (.inr z));generalize ((({[co,s',I],H}:Ex).add d).add rl)=ex at O old;generalize upd G3 rl (.lst [])=G4;intro R4;clear C4 C3 K1 sr D pa oD C2 mW mc s2 lw mb sd
 -- its ending
 have hn:=R4.c;obtain⟨hY,hF,hB,ii,_⟩:=id R4.c.hc;refine bU (cO {_,rfl,co,hY,_,rfl,ii,xg _ _ _ _ _ (by decide +kernel),_,rfl,Ms,Wp k H,ex,co,m,s',I,_,W,rfl,R4.c,fun en G5 s5 iv=>bK ?_});dsimp only;have R5:=R4.same s5;have rm:∀{rr:RS} {ll:Int} {v:V} {G:Hp},((gN rr ll=none/\v=.non)\/∃e,gN rr ll=some e/\lA (Hid ex G) v e)->(gN rr ll=none/\v=.non)\/(v≠.non/\∃e,gN rr ll=some e/\lA (Hid ex G) v e):=fun h=>by
  rcases h with h|⟨e,d,h⟩
  ·exact .inl h
  ·refine .inr {fun z=>?_,e,d,h};subst z
   cases e with
   |empty=>
    obtain⟨t,e',_⟩:=h
    cases e'
   |cut=>
    obtain⟨t,e',_⟩:=h
    cases e'
   |stp st=>
    cases st with
    |fin x=>
     obtain⟨t,kk,e',_⟩:=h
     cases e'
    |flt y x=>
     obtain⟨t,kk,e',_⟩:=h
     cases e'
 refine vC (fun mv G=>∃(r:RS) (en:V) (u5:Option V) (Z:List V) (kvs:List (Key×V)),mv=[some (.ref k),some (.int W),some (.ref co),some (.ref rl),some en,u5]/\Krn CK CC CS Ms es H k dx m sg co s' I d rl ev W ex G r Z kvs/\kvs.map (·.1)=oS (Z.length/ev.toNat) ev/\(∃(i:Nat) (e:End),jd Ms (cS Ms es) W i e/\aK (RcIn (Hid ex G)) Z (itR Ms (cS Ms es) i).2/\lA (Hid ex G) en e)) ?_ ?_
 rotate_left
 ·intro N hN;refine{fun mm σ G=>∃(r:RS) (en:V) (u5:Option V) (Z:List V) (kvs:List (Key×V)),σ=[some (.ref k),some (.int W),some (.ref co),some (.ref rl),some en,u5]/\Krn CK CC CS Ms es H k dx m sg co s' I d rl ev W ex G r Z kvs/\kvs.map (·.1)=oS (Z.length/ev.toNat) ev/\((en=.non/\gN r (W-Z.length)=none/\Mrk Ms es Z.length r/\aK (RcIn (Hid ex G)) Z (itR Ms (cS Ms es) Z.length).2/\ev.toNat ∣ Z.length/\mm=(W-Z.length).toNat+1)\/(en≠.non/\(∃(i:Nat) (e:End),jd Ms (cS Ms es) W i e/\aK (RcIn (Hid ex G)) Z (itR Ms (cS Ms es) i).2/\lA (Hid ex G) en e)/\mm=0)),?_,?_}
  ·have mt:([(Sum.inl 0,V.ref c0)]:List (Key×V)).map (·.1)=oS (([]:List V).length/ev.toNat) ev:=by
    rw[cy,Nat.zero_div];unfold oS;show [Sum.inl 0]=[Sum.inl ((0*ev.toNat:Nat):Int)];rw[Nat.zero_mul];rfl
   rcases rm iv with⟨h1,h2⟩|⟨h,e0,d0,z0⟩
   ·exact{_,_,_,_,_,_,rfl,R5,mt,.inl {h2,by rw[show W-(([]:List V).length:Int)=W from Int.sub_zero _];exact h1,mr,.nil,Nat.dvd_zero _,rfl}}
   ·exact{_,_,_,_,_,_,rfl,R5,mt,.inr {h,{0,e0,{fun j hj=>absurd hj (gz _),by rw[show W-((itR Ms (cS Ms es) 0).2.length:Int)=W from Int.sub_zero _];exact d0,R5.c.ok},.nil,z0},rfl}}
  ·rintro mm σ G ⟨r,en,u5,Z,kvs,rfl,g,ph,hw⟩;refine{_,rfl,_,rfl,?_}
   rcases hw with⟨rfl,ki,mk,ip,kc,rfl⟩|⟨ne,hS,rfl⟩
   ·refine gG ?_;refine{_,fun _ _ h=>h,?_};have ky:=(gx ki).2.2;obtain⟨kk,kw,k1,k2,k3,k4⟩:∃kk:Int,(if W-(Z.length:Int)<ev then W-(Z.length:Int) else ev)=kk/\0<kk/\kk<=ev/\kk<=W-Z.length/\(kk=ev\/kk=W-Z.length):=by
     by_cases c:W-(Z.length:Int)<ev
     ·exact{_,if_pos c,by omega,by omega,by omega,.inr rfl}
     ·exact{_,if_neg c,by omega,by omega,by omega,.inl rfl}
    refine bU (cO {_,rfl,_,rfl,k,CK,dx,_,_,rfl,g.qk,T.cl,T.nE,ke_e _ _ _ _,_,rfl,_,rfl,rl,_,rfl,.inl (SqL.of g.qr),_,_,rfl,rfl,ev,W-Z.length,rfl,?_});rw[kw];have hf:=g.pd;have hC:=g.le;refine{Ms,Wp k H,ex,co,m,s',I,r,kk,rfl,hR.mo,g.c,by omega,by omega,fun G2 t i e R=>bK ?_};dsimp only;obtain⟨pp,lM,Y,g1,g2,_,g3,_⟩:=R.rs;have l2:=aZ g3;have few:=yA mo R.st (by omega);have hL:=Eg mo R.st.1;have nz:=R.ot;have ls:=nz _ O.k1.symm O.k2.symm O.k3.symm _ g.qk;have kI:=nz _ O.d1.symm O.d2.symm O.d3.symm _ g.qd;have oe:=nz _ O.r1.symm O.r2.symm O.r3.symm _ g.qr;have ke:pp≠rl:=fun z=>gO g2 (z ▸ O.ir);have mq:Kpt CC CS m Ms es (Hid (kx H k co s' I d rl) G2) kvs:=g.kp.same fun a o e=>by
     have na:=gO e;rw[eg na];have ni:∀{b:aa},b∈[k,co,s',I,d,rl]->a≠b:=fun hb z=>na (.inl (by rw[z];exact hb));exact nz a (ni (by simp)) (ni (by simp)) (ni (by simp)) o (cW _ _ e)
    have oi:G2 t=some (.tup [.ref pp,lM]):=cW _ _ g1;have lp:G2 pp=some (.lst Y):=cW _ _ g2;refine bU {_,rfl,.inl {rfl,_,SqL.of oe},_,rfl,t,_,_,_,rfl,rfl,SqT.of oi,rfl,rl,pp,Z,Y,rfl,rfl,oe,lp,by omega,?_};have C3:=R.cc.upd (a:=rl) (o:=.lst (Z++Y)) O.ir O.nr O.r1 O.r2 O.r3 (fun xs z=>by cases z);have U:(Z++Y).length=Z.length+Y.length:=ay;have R3:Krn CK CC CS Ms es H k dx m sg co s' I d rl ev W ex (upd G2 rl (.lst (Z++Y))) (itR Ms r i).1 (Z++Y) kvs:=by
     refine{C3,aW ls O.kr,aW kI O.dr,aj,?_,fun q hq x e=>?_,?_,?_,?_}
     ·rw[gW (.inl (by simp))];exact mq
     ·have:=g.ku q hq x e;rw[U];omega
     ·have:=g.kl;rw[U];omega
     ·rw[U];omega
     ·rw[U];omega
    have pk:aK (RcIn (Hid ex (upd G2 rl (.lst (Z++Y))))) (Z++Y) ((itR Ms (cS Ms es) Z.length).2++(itR Ms r i).2):=by
     rw[gW O.ir];exact Ce (Paired.mono (fun _ _ z=>z.same R.sm) ip) g3
    have pb:upd G2 rl (.lst (Z++Y)) t=some (.tup [.ref pp,lM]):=aW oi (fun z=>by
     rw[z,oe]at oi
     cases oi)
    have mx:upd G2 rl (.lst (Z++Y)) pp=some (.lst Y):=aW lp ke;revert R3 pk pb mx;clear C3 ls kI oe mq;generalize upd G2 rl (.lst (Z++Y))=G3;intro R3 pk pb mx;dsimp only;obtain⟨qn,nT⟩:=kc;have lk:0<ev.toNat:=by omega
    have qd:Z.length/ev.toNat=qn:=by rw[nT];exact Nat.mul_div_cancel_left _ lk
    rw[qd]at ph;refine vC (fun mv G'=>mv=[some (.ref k),some (.int W),some (.ref co),some (.ref rl),some .non,some (.ref t)]/\∃ow,Krn CK CC CS Ms es H k dx m sg co s' I d rl ev W ex G' (itR Ms r i).1 (Z++Y) ow/\aK (RcIn (Hid ex G')) (Z++Y) ((itR Ms (cS Ms es) Z.length).2++(itR Ms r i).2)/\ow.map (·.1)=oS ((Z++Y).length/ev.toNat) ev/\((Mrk Ms es (Z++Y).length (itR Ms r i).1/\(itR Ms (cS Ms es) (Z++Y).length).2=(itR Ms (cS Ms es) Z.length).2++(itR Ms r i).2/\0<Y.length/\ev.toNat ∣ (Z++Y).length)\/∃e',gN (itR Ms r i).1 (W-(Z++Y).length)=some e')) ?_ ?_
    rotate_left
    ·intro N' lj;refine fh {_,rfl,t,_,_,_,rfl,rfl,SqT.of pb,rfl,pp,Y,rfl,.inl (SqL.of mx),_,rfl,k,CK,dx,_,_,rfl,R3.qk,T.cl,T.nE,ke_e _ _ _ _,rfl,_,rfl,gC (fun c=>?_) (fun c=>?_)}
     ·have c:(Y.length:Int)=ev:=V.int.inj (of_decide_eq_true c);have full:((itR Ms r i).2.length:Int)=kk:=by omega
      obtain⟨mk',ik⟩:=mk.full mo R.st full;have ei:Z.length+i=(Z++Y).length:=by rw[U];omega
      rw[ei]at mk';have pc:(itR Ms (cS Ms es) (Z++Y).length).2=(itR Ms (cS Ms es) Z.length).2++(itR Ms r i).2:=by
       rw[<- ei,nj,<- mk.e]
      have nl:(Z++Y).length=(qn+1)*ev.toNat:=by
       rw[U,nT,vD,Ca];omega
      obtain⟨pe,lv,la,oT,_⟩:=id R3.c.hc;have he:=R3.pd;have hH:=R3.le;refine{_,rfl,co,pe,_,rfl,oT,xg _ _ _ _ _ (by decide +kernel),Ms,co,m,_,rfl,R3.c.k,R3.c.rst,hR.lm,by omega,fun mn c1 gM hK lx=>?_};have s4:bh G3 mn:=fun a o e=>(lx.sm a o e).2.2.2;have J:=R3.same s4;have lc:(Sum.inl ((Z++Y).length:Int):Key)∉kvs.map (·.1):=fun z=>by
       obtain⟨x,hx,e⟩:=cD.mp z;have:=g.ku x hx _ e;rw[U]at this;omega
      have fk:kvs.length<aB:=by
       have:=g.kp.few;omega
      have dp:=uw.k (k:=Sum.inl ((Z++Y).length:Int)) (v:=.ref c1) J.qd fk;rw[IY lc]at dp;refine{_,rfl,k,CK,dx,_,_,rfl,J.qk,T.cl,T.nK,K8 _ _ _ _,_,rfl,rl,_,rfl,.inl (SqL.of J.qr),d,_,rfl,dp,lj _ _ {rfl,kvs++[(Sum.inl ((Z++Y).length:Int),.ref c1)],?_,?_,?_,.inl {mk',pc,by omega,{qn+1,by rw[nl,vD]}}}}
      rotate_left
      ·rw[gW O.id];exact Paired.mono (fun _ _ z=>z.same (gv s4)) pk
      ·rw[cw,ph,nl,Nat.mul_div_cancel _ lk,Ja];rfl
      refine{J.c.upd (a:=d) O.id O.nd O.d1 O.d2 O.d3 (fun xs z=>by cases z),aW J.qk O.kd,aj,aW J.qr O.dr.symm,{fun q hq=>?_,?_,?_},fun q hq x e=>?_,?_,J.pd,J.le}
      ·rw[gW (.inl (by simp))]
       rcases bZ.mp hq with z|z
       ·exact J.kp.at_ q z
       ·rw[aD.mp z];exact{(Z++Y).length,c1,_,rfl,lx.kx R3.kx,R3.c.rst,mk',by omega}
      ·rw[cw];exact y7 g.kp.nd lc
      ·rw[ay];show kvs.length+1<=50;have:=g.kl;omega
      ·rcases bZ.mp hq with z|z
       ·have:=g.ku q z x e;rw[U];omega
       ·rw[aD.mp z]at e
        cases e;exact xr _
      ·rw[ay];show kvs.length+1<=_;have:=g.kl;rw[U];omega
     ·have c:(Y.length:Int)≠ev:=fun z=>c (by rw[z];exact decide_eq_true rfl);refine lj _ _ {rfl,kvs,R3,pk,?_,.inr ?_}
      ·have:(Z++Y).length/ev.toNat=qn:=Nat.div_eq_of_lt_le (by rw[U,nT,vD];omega) (by rw[U,nT,vD,Ca];omega);rw[this];exact ph
      refine I9 R.st.2.1 ?_
      by_cases ce:e=.cut
      ·right
       have z:=R.st.2.1;rw[ce]at z;have:=Lc z;rw[U];omega
      ·exact .inl ce
    rintro _ mn ⟨rfl,ow,J,mu,nf,il⟩;obtain⟨pe,lv,la,oT,_⟩:=id J.c.hc;refine cO {_,rfl,co,pe,_,rfl,oT,xg _ _ _ _ _ (by decide +kernel),_,rfl,_,rfl,rl,_,rfl,.inl (SqL.of J.qr),_,_,rfl,rfl,Ms,Wp k H,ex,co,m,s',I,_,W-(Z++Y).length,rfl,J.c,fun hE G6 s6 ml=>bK ?_};dsimp only;have R6:=J.same s6;have nh:=Paired.mono (fun _ _ z=>RcIn.same (gv (ex:=ex) s6) z) mu
    rcases rm ml with⟨h1,rfl⟩|⟨h,e6,d6,z6⟩
    ·rcases il with⟨mk',pc,pos,dv⟩|⟨e',y⟩
     ·have hy:=R6.le;exact{(W-((Z++Y).length:Int)).toNat+1,by rw[U];omega,_,_,_,_,_,rfl,R6,nf,.inl {rfl,h1,mk',by rw[pc];exact nh,dv,rfl}}
     ·rw[h1]at y
      cases y
    ·rw[U,l2]at d6;obtain⟨ix,ka⟩:=mk.stops R.st k3 d6 (by omega);exact{0,by omega,_,_,_,_,_,rfl,R6,nf,.inr {h,{_,e6,ix,by rw[ka];exact nh,z6},rfl}}
   ·rw[decide_eq_false ne];exact eE (hN _ _ {_,_,_,_,_,rfl,g,ph,hS})
 rintro _ G ⟨r,en,u5,Z,kvs,rfl,g,ph,⟨iF,eF,jp,js,hQ⟩⟩;obtain⟨pe,lv,la,oT,_⟩:=id g.c.hc;refine eW (uI ?_);refine{_,rfl,_,rfl,_,rfl,co,CC,pe,_,_,rfl,oT,TC.cl,TC.nS,Iq _ _ _ _ _,fun b mf hb kz nb=>{b,mf,_,_,_,rfl,aj,fun G' kv but=>{rfl,?_}}};have ly:bh G G':=fun a o e=>but _ _ (aW (aW e (aw e kz)) (aw e hb)) (aw e hb);have pm:=g.same ly;have hG:=pm.le;have hX:H d=none:=by
  have:=O.nd;unfold Wp at this;rw[if_neg O.kd.symm]at this;exact this
 have ih:H rl=none:=by
  have:=O.nr;unfold Wp at this;rw[if_neg O.kr.symm]at this;exact this
 have sF:bh (Hid ex G) (Hid {[],H} G'):=fun a o e=>by
  rw[eg fun z=>?_]
  ·exact ly _ _ (cW _ _ e)
  ·rcases z with z|z
   ·cases z
   ·exact gO e (old z)
 refine q G' b mf rl d en (.ref s') Z kvs iF eF jp (by rw[eg (iT ih)];exact pm.qr) (Paired.mono (fun _ _ z=>z.same sF) js) (hQ.same sF) ph (fun a o e na=>(pm.c.sm a o (ji e na)).2.2.2) kv pm.qr (by omega) pm.qk (by rw[eg (iT hX)];exact pm.qd) (pm.kp.same fun a o e=>?_);rw[eg fun z=>?_]
 ·exact cW _ _ e
 ·rcases z with z|z
  ·cases z
  ·exact gO e (.inr z)
end
end My
namespace HT
open PySem PyProof.Rows
open PySem.SeqAt
open PySem.AutoSeq1 (wpAny_loadPart')
open PySem.MeetsSeq PySem.MeetsSeq2 PySem.MeetsSeq3
theorem Ld(l b:aa)(xs ys:Array ae)(n m:Nat)(dd de:Option aa)(sl sm:Array (Option ae))(ns ms:List Int)(hi:dQ xs.toList ns)(hj:dQ ys.toList ms) :
  Meets (ic.«tuple.__le__» {[.ref l,.ref b],[]})
   (fun _ R s=>s.heap.get? l=some {cls:=.type "tuple",dict:=dd,data:=.seq xs n,slots:=sl}/\s.heap.get? b=some {cls:=.type "tuple",dict:=de,data:=.seq ys m,slots:=sm}/\R (.ok (.ret (.bool (!lexLt ms ns)))) s):=
 .of_wp fun prog w A R s h=>by
  obtain⟨hp,g,d,tk,os⟩:=s;obtain⟨hl,hb,h⟩:=h;have f2:=i5;have z1:xs.size=ns.length:=by rw[<- hi.length];simp
  have z2:ys.size=ms.length:=by rw[<- hj.length];simp
  wp_walk using dy hl,dy hb,lL _ (fun rest b s'=>b.1=none/\s'=⟨hp,g,d,tk,os⟩/\∃(vs D:List ae) (W Y:List Int),rest=vs.zip D /\
   dQ vs W/\dQ D Y/\W.length+ys.size=Y.length+xs.size/\R (.ok (.ret (.bool (!lexLt Y W)))) ⟨hp,g,d,tk,os⟩) _
  case turn=>
   rintro⟨y,x⟩ rest b s' ⟨J,rfl,vs,D,W,Y,O,hv,hw,Z,U⟩
   cases hv with
   |nil=>rw[uX]at O;cases O
   |cons a t hv=>
    cases hw with
    |nil=>rw[t9]at O;cases O
    |cons c u hw=>
     rw[e8]at O;injection O with bG I;injection bG with hy hx;subst hy hx;rw[lexLt_cons]at U;simp only[aS]at Z;obtain⟨e,he,V⟩:=wF A.in1 ⟨hp,g,d,tk,os⟩ a t c u;refine ai (he prog w _ _ ?_)
     cases e with
     |true=>
      rw[if_pos (V.mp rfl).symm]at U
      wp_walk
      exact{rfl,rfl,_,_,_,_,I,hv,hw,by omega,U}
     |false=>
      rw[if_neg (fun q=>absurd (V.mpr q.symm) aY)]at U;have bF:∀(E:ae->ao->Prop) (Q:ae->ao->Prop),Q (.bool (decide (a<=c))) ⟨hp,g,d,tk,os⟩->aX (bA prog w) A.in1 (p8 .LtE (.int a t) (.int c u)) Q E ⟨hp,g,d,tk,os⟩:=fun E Q q=>
       (PyProof.Rows.le_int q:aX (bA prog w) A.in1 (c5 .LtE (.int a t) (.int c u)) Q E _)
      wp_walk using bF
      have ca:a≠c:=fun q=>absurd (V.mpr q) aY;have hd:(!decide (c<a))=decide (a<=c):=by
       by_cases z:c<a
       ·rw[decide_eq_true z,decide_eq_false (by omega)];rfl
       ·rw[decide_eq_false z,decide_eq_true (by omega)];rfl
      rw[hd]at U;exact{_,rfl,U}
  case fin=>
   rintro⟨b1,b2⟩ s' ⟨J,rfl,vs,D,W,Y,O,bB,H,Z,U⟩;simp only at J;subst J;have hv:lexLt Y W=decide (ys.size<xs.size):=by
    cases bB with
    |nil=>
     cases H with
     |nil=>
      simp only[cy]at Z;rw[nC];exact (decide_eq_false (by omega)).symm
     |cons c u hw=>
      simp only[cy,aS]at Z;rw[lK];exact (decide_eq_false (by omega)).symm
    |cons a t hv=>
     cases H with
     |nil=>
      simp only[cy,aS]at Z;rw[lJ];exact (decide_eq_true (by omega)).symm
     |cons c u hw=>
      rw[e8]at O
      cases O
   have hd:(!decide (ys.size<xs.size))=decide (xs.size<=ys.size):=by
    by_cases z:ys.size<xs.size
    ·rw[decide_eq_true z,decide_eq_false (by omega)];rfl
    ·rw[decide_eq_false z,decide_eq_true (by omega)];rfl
   rw[hv,hd]at U
   wp_walk
   exact{_,rfl,by simpa[jo] using U}
  case h=>
   exact{rfl,rfl,xs.toList,ys.toList,ns,ms,rfl,hi,hj,by omega,h}
theorem le_tup{prog:aM}{w:bO}{A:cj}{E:ae->ao->Prop}{s:ao}{l b:aa}{xs ys:Array ae}{ns ms:List Int}{Q:ae->ao->Prop}(hl:rJ s.heap l xs)(hb:rJ s.heap b ys)(hi:dQ xs.toList ns)(W:dQ ys.toList ms)
  (hu:A.units<eN) (h:Q (.bool (!lexLt ms ns)) s):aX (bA prog w) A (c5 .LtE (.ref l) (.ref b)) Q E s:=by
 obtain⟨⟨c1,dd,t1,sl⟩,Y,rfl,n,rfl⟩:=id hl;obtain⟨⟨U,V,O,sm⟩,Z,rfl,m,rfl⟩:=id hb;exact kP (op:=.LtE) {_,Y,rfl} {_,Z,rfl} PySem.F.slot_tuple_le PySem.F.entry_tuple_le (PySem.F.args_tuple_le_2 _ _) (Ld l b xs ys n m dd V sl sm ns ms hi W)
  {Y,Z,show Value.bool (!lexLt ms ns)≠Value.notImplemented/\Q (.bool (!lexLt ms ns)) s from{(fun x=>nomatch x),h}} hu
end HT
namespace L2
open PySem PySem.Spec PyProof.Rows
section
variable{X:Cx}
theorem Jb(hu:X.A.units<eN):OpR X (c5 .LtE) (fun x y H Q=>∃a b ns ms,x=.ref a/\y=.ref b/\H a=some (.tup (ns.map V.int))/\H b=some (.tup (ms.map V.int))/\Q (.bl (!HT.lexLt ms ns)) H):=by
 intro pins s σ H x y v u Q I U W h;obtain⟨a,b,ns,ms,rfl,rfl,ha,hb,q⟩:=h
 cases U
 cases W;obtain⟨Y,r1,O,_⟩:=I.tuple (SqT.of ha);obtain⟨Z,r2,p2,_⟩:=I.tuple (SqT.of hb);have i1:dQ Y.toArray.toList ns:=intsAre_of r1;have i2:dQ Z.toArray.toList ms:=intsAre_of r2;exact HT.le_tup O p2 i1 i2 hu {.bl (!HT.lexLt ms ns),H,I,rfl,q}
end
end L2
namespace My
open PySem L2
theorem OH{CC CS:aa}{Ms:List MD}{Hb G:Hp}{ex:Ex}{co m sl pl:aa}{r:RS}(c:iC CC CS Ms Hb ex G co m sl pl r){x:Ev}{Z:List V}(hp:aK (ib (Hid ex G)) Z (jZ x r.pd))(ok:ROk Ms.length (wit x r)):iC CC CS Ms Hb ex (upd G pl (.lst Z)) co m sl pl (wit x r):=by
 obtain⟨dx,rv,J,h1,h2,O⟩:=c.hc;obtain⟨U,W,Y⟩:=c.hs;have hu:Hid ex (upd G pl (.lst Z))=Hid ex G:=gW c.i3;refine{ok,fun b o e=>?_,c.i1,c.i2,c.i3,c.n1,c.n2,c.n3,{dx,rv,J,aW h1 c.n2,?_,?_},{U,aW W c.n3,?_},{Z,aj,?_},c.wk,fun a ha=>?_}
 ·obtain⟨a1,a2,a3,a4⟩:=c.sm b o e;exact{a1,a2,a3,aW a4 a3}
 ·rw[hu];exact h2
 ·rw[hu];exact O
 ·rw[hu];exact Y
 ·rw[hu];exact hp
 ·by_cases z:a=pl
  ·rw[z];exact{_,aj,fun xs y=>by cases y}
  ·obtain⟨o,e,n⟩:=c.nt a ha;exact{o,aW e z,n}
theorem Jc{xs:List V}{n:Nat}(h:n+1=xs.length):atI xs (-1)=some (xs[n]'(by omega)):=by
 unfold atI ixN;rw[if_neg (by decide),if_pos (by omega)];show xs[((-1:Int)+xs.length).toNat]?=_;rw[show ((-1:Int)+xs.length).toNat=n by omega,aH (by omega)]
section
variable{P:aM}{w:bO}{K:af}{mg:Str->Option ae}{base:cC}{f fCf fPf fPu fR CK CC CM CS CN CL:aa}{fd fdCf fdPf fdPu fdR:bX}
seal PS PSs PE PA PT PW PI PG PGs PC
abbrev nFk:List Str:=["keeper","number","sign","most","course","happening"]
abbrev pFk:List Str:=["keeper","number","sign","most"]
theorem OI:bN nFk pFk (aL wX):={}
inductive Mz(CK CC CM CS CN CL:aa)(vs:List V)(H:Hp)(Q:VK)(E:XK):Prop where
 |mk(Ms:List MD)(es:List Ev)(k m sl kd:aa)(ev n most:Int)(kvs:List (Key×V))(sv:V)(x:Ev)(_:vs=[.ref k,.int n,sv,.int most])(_:zH CK CC CM CS Ms es H k m sl kd ev kvs)(_:mI H sv x)(_:qR Ms.length x)(_:most<=1000)(_:(n∉kK kvs->E (.ref CN) none H))(_:(∀(nn:Nat) r G,n∈kK kvs->n=nn->Mrk Ms es nn r->¬tY r (atP x es.length)->bh H G->E (.ref CL) none G))(_:∀(G:Hp) (t rl:aa) (en:V) (rvs:List V) (nn i:Nat) (r:RS) (e:End),n∈kK kvs->n=nn->tY r (atP x es.length)->Mrk Ms es nn r->jd Ms (wit (atP x es.length) r) most i e->bh H G->Hid ⟨[],H⟩ G t=some (.tup [.ref rl,en])->Hid ⟨[],H⟩ G rl=some (.lst rvs)->aK (RcIn (Hid ⟨[],H⟩ G)) rvs (itR Ms (wit (atP x es.length) r) i).2->lA (Hid ⟨[],H⟩ G) en e->Q (.ref t) G):Mz CK CC CM CS CN CL vs H Q E
def spFk(CK CC CM CS CN CL:aa):Sp:=fun vs H Q E=>Mz CK CC CM CS CN CL vs H Q E
theorem ok_fk(D:Df K mg "fork" wX pFk f fd)(fa:Mt K CK "course_from" "Keeper.course_from" eY pKc fCf fdCf)(eb:bL P w K mg base (CXo P w) 5 fCf fdCf pKc (OE CK CC CM CS CN))(J:Df K mg "pending_at_first" gc ["signs"] fPf fdPf)(ea:bL P w K mg base CX0 1 fPf fdPf ["signs"] Ig)(fx:Df K mg "put_in" qH ["falling","thing"] fPu fdPu)(ei:bL P w K mg base CX0 2 fPu fdPu ["falling","thing"] AJ)(DR:Df K mg "run_on" lT ["course","most"] fR fdR)(GR:bL P w K mg base CX0 39 fR fdR ["course","most"] (AL CC CM CS))(T:KeT K mg CK)(TC:CoT K mg CC)(mL:mg "TooLate"=some (.ref CL))(xL:cT K CL o6 "ValueError.__new__"=true):bL P w K mg base (CXo P w) 40 f fd pFk (spFk CK CC CM CS CN CL):=by
 refine D.F.okX OI (fun vs H Q E h=>?_) (fun ec A outer s H vs Q E hr h=>?_)
 ·obtain⟨Ms,es,k,m,sl,kd,ev,n,Y,kvs,sv,x,rfl,_⟩:=h;rfl
 obtain⟨Ms,es,k,m,sl,kd,ev,n,Y,kvs,sv,x,rfl,hk,hs,hx,hm,nm,late,q⟩:=h;have dG:=mO hr;have ej:(A.deeper (xR "fork" (aL wX) s.heap.objs.size f ec)).units<eN:=by omega
 have r1:cZ 1 _:=hr.mono (by decide);have r2:cZ 2 _:=hr.mono (by decide);have r5:cZ 5 _:=hr.mono (by decide);have ef:cZ 39 _:=hr;refine⟨_,ah (bJ (i:=4) OI.nd rfl (Or.inl rfl) (gj (pv 0) T.cl fa.m eb r5 fa.b .nil (dR.passes fun _ _ _ z=>z) (aR (pv 1) ag)))
  (ah (bJ (i:=5) OI.nd rfl (Or.inl rfl) (bY dO (aI ea r1 (by rfl) J.m J.F.kp J.b .nil bC (oR (cR By (d7 K (by rfl) (pv 0) (by rfl)) (eU (aR (pv 2) ag))) ag)) (Ck yP av) (fun _ _=>rfl)))
  (ah (cH ((jA (qe (yJ (d7 K (by rfl) (pv 4) (by rfl)))) (iM (bQ (Jb ej) (bY cA (pv 5) av (fun _ _=>rfl)) (d7 K (by rfl) (pv 4) (by rfl)) (cq _)))).pt) (aA (jG dR rfl rfl mL xL ((dS bS ag)))) bP)
  (ah (e7 (aI ei r2 (by rfl) fx.m fx.F.kp fx.b .nil bC (aq (d7 K (by rfl) (pv 4) (by rfl)) (aR (pv 5) ag))))
  (aA (bE (aI GR ef (by rfl) DR.m DR.F.kp DR.b .nil bC (aR (pv 4) (aR (pv 3) ag)))))))),?_⟩
 have big:=d9;have mo:=hk.rn.mo.ok;obtain⟨dx,ob⟩:=hk.ob;refine bU (cO {_,rfl,k,dx,_,rfl,ob,yC _ _ _ _ (by decide +kernel),_,rfl,Ms,es,k,m,sl,kd,ev,n,kvs,rfl,hk,nm,fun G1 c' O g nn r eH en hM lp C=>bK ?_});dsimp only;have s1:bh H G1:=fun a o e=>(C.sm a o e).2.2.2;have R1:=hk.rn.same s1;obtain⟨V,ez,I⟩:=R1.sg;have dL:=aZ I;have le:=hk.rn.le;have er:mI G1 sv x:=hs.same s1;have em:=s1 _ _ ob;refine bU (cO {_,rfl,k,CK,dx,_,_,rfl,em,T.cl,T.nS,ke_s _ _ _ _,_,rfl,by show 1<=aB;omega,fun l1 fe=>?_});have t1:=aE fe (.lst [sv]);refine{sl,l1,V,[sv],rfl,rfl,t1 _ _ ez,aj,by show V.length+1<=aB;omega,fun l2 ew=>?_};have t2:=aE ew (.lst (V++[sv]));have U:=t1.trans t2;refine{l2,V++[sv],es++[x],rfl,aj,Ce (Paired.mono (fun _ _ z=>mI.same U z) I) (.cons (er.same U) .nil),by rw[ay];show es.length+1<1000;omega,fun G2 l3 ys t3 eo eL W ey=>?_};rw[ay]at W;have W:ys.length=es.length+1:=W;refine{1,rfl,l3,ys,-1,ys[es.length],rfl,rfl,SqL.of eL,Jc W.symm,bK ?_};have ev:=ey es.length ys[es.length] x (aH (by omega)) (by rw[df (ax _),mJ];rfl);have fk:=U.trans t3;have C2:=C.same fk;have ee:=s1.trans fk;clear ey eL eo t3 U t2 t1 fe ew ez I R1;generalize ys[es.length]=hv at ev;dsimp only;obtain⟨th,kh,el,q1,q2⟩:=id ev;obtain⟨ft,rv,dz,fo,Z,_⟩:=id C2.hc;refine vC (fun eh G=>eh=[some (.ref k),some (.int n),some sv,some (.int Y),some (.ref c'),some hv]/\G2=G/\tY r (atP x es.length)) ?_ ?_
 rotate_left
 ·intro N hN;refine fh {_,rfl,c',CC,ft,_,_,rfl,fo,TC.cl,TC.nR,Oh _ _ _ _ _,_,rfl,?_}
  cases hq:r.re with
  |none=>
   rw[hq]at Z;have Z:rv=.non:=Z;subst Z;exact eE (eE (hN _ _ {rfl,rfl,fun h hh=>by rw[hq]at hh;cases hh}))
  |some h=>
   rw[hq]at Z;obtain⟨kr,rfl,ed⟩:=Z;refine gG ?_;refine{_,rfl,th,_,_,.ref kh,el,rfl,SqT.of q1,rfl,_,rfl,c',CC,ft,_,_,rfl,fo,TC.cl,TC.nR,Oh _ _ _ _ _,kh,kr,(atP x es.length).key,h.key,rfl,rfl,q2,cW _ _ ed,_,rfl,?_}
   cases pl:HT.lexLt h.key (atP x es.length).key with
   |true=>exact eE (hN _ _ ⟨rfl,rfl,fun h' hh=>by
     rw[hq]at hh
     cases hh;exact pl⟩)
   |false=>exact gG ⟨B3,late nn r _ eH en hM (fun z=>by
     have:=z h hq;rw[pl]at this
     cases this) ee⟩
 rintro _ _ ⟨rfl,rfl,eF⟩;obtain⟨ps,g1,g2⟩:=C2.hp;have un:=IX (x:=x) mo hM;refine bU {_,rfl,c',CC,ft,_,_,rfl,fo,TC.cl,TC.nP,Ir _ _ _ _ _,_,rfl,?_};refine rW ?_;refine Dw (F:=Hid {[c',O,g],H} G2) cW g1 g2 C2.ok.fall (ib.hid C2.nt ev) un (by omega) fun dV et=>?_;have C3:=OH C2 et (Ef C2.ok ⟨hx.to0,hx.to1,hx.wt,hx.wa,hx.wb⟩ rfl un);have l3:(wit (atP x es.length) r).pd.length<=1000000:=by
  show (jZ (atP x es.length) r.pd).length<=_;rw[(gR _ _).length_eq];show r.pd.length+1<=_;omega
 dsimp only;refine eW {_,rfl,_,rfl,Ms,H,_,c',m,O,g,_,Y,rfl,hk.rn.mo,C3,hm,l3,fun G4 t i e R=>?_};obtain⟨rl,env,ek,j1,j2,_,j3,j4⟩:=R.rs;have sH:bh H G4:=fun a o e=>(R.cc.sm a o e).2.2.2;have sh:bh (Hid {[c',O,g],H} G4) (Hid {[],H} G4):=fun a o e=>by
  have n:a∉({[],H}:Ex):=fun z=>gO e (z.elim (fun y=>absurd y aV) .inr);rw[eg n];exact cW _ _ e
 exact q G4 t rl env ek nn i r e eH en eF hM R.st sH (sh _ _ j1) (sh _ _ j2) (Paired.mono (fun _ _ z=>z.same sh) j3) (j4.same sh)
end
end My
namespace L2
open PySem PySem.Spec PyProof.Rows
section
variable{X:Cx}
theorem rY:jT X (.builtin "isinstance") (fun xs H Q=>∃a C Y,∃Z:List aa,∃b,xs=[.ref a,.ref Y]/\H Y=some (.tup (Z.map V.ref))/\H a=some (XO a C)/\lQ X.K C/\l9 X.K (.ref C) (Z.map Value.ref)=some b/\Q (.bl b) H):=by
 intro pins s σ H xs us Q I r h;obtain⟨a,C,Y,Z,b,rfl,D,e,cl,k,q⟩:=h;obtain⟨u,w',rfl,rx,rt⟩:=vals2 r
 cases (show u=Value.ref a from rx)
 cases (show w'=Value.ref Y from rt);obtain⟨ox,J⟩:=(BL I.hok e).inst;obtain⟨O,U,rv,ob,ho,hc,m,hd⟩:=I.hok Y _ D;have hi:U=Z.map Value.ref:=by
  clear k D ho hd q O
  induction Z generalizing U with
  |nil=>cases rv;rfl
  |cons a Z ih=>
   cases rv with
   |cons h t=>rw[cg,<- ih (rv:=t)];cases (show _=Value.ref a from h);rfl
 obtain⟨oc,bf,bc,g⟩:=ob;dsimp only at hc hd;subst hc hd;exact PySem.W.kia_tup (Ar cl) I.kIn J ho (by rw[hi];exact k) (fun z=>nomatch z) fun tk=>{.bl b,H,I.tok _,rfl,q}
end
end L2
namespace My
open PySem L2
theorem yE:eS "ValueError"=some (.type "ValueError"):=by decide +kernel
section
variable{P:aM}{w:bO}{K:af}{mg:Str->Option ae}{base:cC}{f fFk CK CC CM CS CN CL CE CF CMd CR CTx:aa}{fd fdFk:bX}
seal PS PSs PE PA PT PW PI PG PGs PC
abbrev nAk:List Str:=["_law_keeper","_law_number","_law_sign_here","_law_most","_law_told","e"]
abbrev pAk:List Str:=["_law_keeper","_law_number","_law_sign_here","_law_most"]
theorem AV:bN nAk pAk (aL mZ):={}
inductive MA(CK CC CM CS CN CL:aa)(vs:List V)(H:Hp)(Q:VK)(_e:XK):Prop where
 |mk(Ms:List MD)(es:List Ev)(k m sl kd:aa)(ev n most:Int)(kvs:List (Key×V))(sv:V)(x:Ev)(_:vs=[.ref k,.int n,sv,.int most])(_:zH CK CC CM CS Ms es H k m sl kd ev kvs)(_:mI H sv x)(_:qR Ms.length x)(_:most<=1000)(_:(n∉kK kvs->∀ea,H ea=none->Q (.ref ea) (upd H ea (XO ea CN))))(_:(∀(nn:Nat) r G,n∈kK kvs->n=nn->Mrk Ms es nn r->¬tY r (atP x es.length)->bh H G->∀ea,G ea=none->Q (.ref ea) (upd G ea (XO ea CL))))(_:∀(G:Hp) (t rl:aa) (en:V) (rvs:List V) (nn i:Nat) (r:RS) (e:End),n∈kK kvs->n=nn->tY r (atP x es.length)->Mrk Ms es nn r->jd Ms (wit (atP x es.length) r) most i e->bh H G->Hid ⟨[],H⟩ G t=some (.tup [.ref rl,en])->Hid ⟨[],H⟩ G rl=some (.lst rvs)->aK (RcIn (Hid ⟨[],H⟩ G)) rvs (itR Ms (wit (atP x es.length) r) i).2->lA (Hid ⟨[],H⟩ G) en e->Q (.ref t) G):MA CK CC CM CS CN CL vs H Q _e
def OJ(CK CC CM CS CN CL:aa):Sp:=fun vs H Q Z=>MA CK CC CM CS CN CL vs H Q Z
theorem ok_ak(D:Df K mg "_law_asked" mZ pAk f fd)(Y:Df K mg "fork" wX pFk fFk fdFk)(J:bL P w K mg base (CXo P w) 40 fFk fdFk pFk (spFk CK CC CM CS CN CL))(g:mg "MomentError"=some (.ref CE))(xN:cN K (.ref CN) (.ref CE)=some true)(xL:cN K (.ref CL) (.ref CE)=some true):bL P w K mg base CX0 41 f fd pAk (OJ CK CC CM CS CN CL):=by
 refine D.F.ok AV (fun vs H Q E h=>?_) (fun bf A outer s H vs Q E hr h=>?_)
 ·obtain⟨Ms,es,k,m,sl,kd,ev,n,Z,kvs,z,x,rfl,_⟩:=h;rfl
 obtain⟨Ms,es,k,m,sl,kd,ev,n,Z,kvs,z,x,rfl,hk,hs,hx,hm,no,late,q⟩:=h;have I:cZ 40 _:=hr;refine{_,ah (bJ (i:=4) AV.nd rfl (Or.inl rfl) v9) (ah (Ny (fun C σ G=>((C=CN/\n∉kK kvs/\G=H)\/(C=CL/\∃(nn:Nat) (r:RS),n∈kK kvs/\n=nn/\Mrk Ms es nn r/\¬tY r (atP x es.length)/\bh H G))/\σ=[some (.ref k),some (.int n),some z,some (.int Z),some .non,none]) (fun pins=>aA (bJ (i:=4) AV.nd rfl (Or.inl rfl) (Ah J I (by rfl) Y.m Y.F.kp Y.b wM (aR (pv 0) (aR (pv 1) (aR (pv 2) (aR (pv 3) ag))))))) (He 5 (by rfl) g AV.nd rfl rfl (fun U=>aA (bJ (i:=4) AV.nd rfl (Or.inl rfl) (pv 5))) CO)) (aA (bE (pv 4)))),?_};refine bU (cO (bK ?_));dsimp only;refine bU {?_,?_}
 ·refine cO {_,rfl,_,rfl,_,rfl,_,rfl,Ms,es,k,m,sl,kd,ev,n,Z,kvs,z,x,rfl,hk,hs,hx,hm,(fun V=>{CN,rfl,.inl ⟨rfl,V,rfl⟩,rfl}),(fun nn r G a1 a2 a3 a4 a5=>{CL,rfl,.inr ⟨rfl,nn,r,a1,a2,a3,a4,a5⟩,rfl}),fun G t rl en O nn i r e a1 a2 a3 a4 a5 a6 a7 a8 a9 a10=>bK ?_};dsimp only;exact eW {_,rfl,q G t rl en O nn i r e a1 a2 a3 a4 a5 a6 a7 a8 a9 a10}
 ·rintro C bg H' _ ⟨⟨rfl,V,rfl⟩|⟨rfl,nn,r,a1,a2,a3,a4,a5⟩,rfl⟩
  ·refine .inl {xN,fun U W=>cO {_,rfl,bK ?_}};dsimp only[C5];exact eW {_,rfl,no V U W}
  ·refine .inl {xL,fun U W=>cO {_,rfl,bK ?_}};dsimp only[C5];exact eW {_,rfl,late nn r H' a1 a2 a3 a4 a5 U W}
abbrev nKd:List Str:=["_law_told"]
abbrev pKd:List Str:=["_law_told"]
theorem scKd:bN nKd pKd (aL pB):={}
def spKd(CN CL:aa):Sp:=fun vs H Q _=>∃a:aa,vs=[.ref a]/\((∃xs,H a=some (.tup xs)/\Q (.str "told") H)\/(H a=some (XO a CN)/\∀G,bh H G->Q (.str "mark") G)\/(H a=some (XO a CL)/\∀G,bh H G->Q (.str "late") G))
structure KdT(K:af)(mg:Str->Option ae)(CN CL CF CMd CR CTx:aa):Prop where
 mN:mg "NoMark"=some (.ref CN)
 mF:mg "Fault"=some (.ref CF)
 mM:mg "NoModel"=some (.ref CMd)
 mR:mg "NoRoom"=some (.ref CR)
 mT:mg "NoText"=some (.ref CTx)
 mL:mg "TooLate"=some (.ref CL)
 mV:mg "ValueError"=none
 xN:lQ K CN
 xL:lQ K CL
 tN:bV K (.ref CN) (.type "tuple")=some false
 tL:bV K (.ref CL) (.type "tuple")=some false
 vN:bV K (.ref CN) (.type "ValueError")=some true
 vL:bV K (.ref CL) (.type "ValueError")=some true
 oN:l9 K (.ref CN) [.ref CF,.ref CMd,.ref CR,.ref CTx]=some false
 oL:l9 K (.ref CL) [.ref CF,.ref CMd,.ref CR,.ref CTx]=some false
 nn:bV K (.ref CN) (.ref CN)=some true
 nl:bV K (.ref CN) (.ref CL)=some false
 ll:bV K (.ref CL) (.ref CL)=some true
 ln:bV K (.ref CL) (.ref CN)=some false
theorem ok_kd(D:Df K mg "_law_kind" pB pKd f fd)(N:KdT K mg CN CL CF CMd CR CTx)(B:Bl mg):bL P w K mg base CX0 1 f fd pKd (spKd CN CL):=by
 have W:=N.mV;refine D.F.ok scKd (fun vs H Q E h=>?_) (fun V A outer s H vs Q E hr h=>?_)
 ·obtain⟨a,rfl,_⟩:=h;rfl
 obtain⟨a,rfl,⟨xs,ha,q⟩|h⟩:=h
 ·refine⟨_,ah (cH (gJ (cb ju (by rfl) B.isi fH (aR (pv 0) (aR (kY (v:=.ty "tuple") (by rfl) B.tuple boot_tuple rfl) ag)))) (aA (bE bS)) bP)
  (ah (cH ((z7 (ny (gJ (cb eV (by rfl) B.isi fH (aR (pv 0) (aR (kY (v:=.ty "ValueError") (by rfl) W yE rfl) ag))))) (wc (gJ (cb rY (by rfl) B.isi fH (aR (pv 0) (uL (dZ (aR (hU (v:=.ref CF) (by rfl) N.mF rfl) (aR (hU (v:=.ref CMd) (by rfl) N.mM rfl) (aR (hU (v:=.ref CR) (by rfl) N.mR rfl) (aR (hU (v:=.ref CTx) (by rfl) N.mT rfl) ag))))) ag)))))).pt) (aA (bE bS)) bP)
  (ah (cH ((jA (gJ (cb eV (by rfl) B.isi fH (aR (pv 0) (aR (hU (v:=.ref CN) (by rfl) N.mN rfl) ag)))) (iM (ny (gJ (cb eV (by rfl) B.isi fH (aR (pv 0) (aR (hU (v:=.ref CL) (by rfl) N.mL rfl) ag))))))).pt) (aA (bE bS)) bP)
  (ah (cH ((jA (gJ (cb eV (by rfl) B.isi fH (aR (pv 0) (aR (hU (v:=.ref CL) (by rfl) N.mL rfl) ag)))) (iM (ny (gJ (cb eV (by rfl) B.isi fH (aR (pv 0) (aR (hU (v:=.ref CN) (by rfl) N.mN rfl) ag))))))).pt) (aA (bE bS)) bP)
  (aA (bE bS))))),?_⟩
  refine bU (fh {_,rfl,_,"tuple",_,true,rfl,.tup ha,rfl,_,rfl,gG ?_});exact q
 refine⟨_,ah (cH (gJ (cb eV (by rfl) B.isi fH (aR (pv 0) (aR (kY (v:=.ty "tuple") (by rfl) B.tuple boot_tuple rfl) ag)))) (aA (bE bS)) bP)
  (ah (cH ((z7 (ny (gJ (cb eV (by rfl) B.isi fH (aR (pv 0) (aR (kY (v:=.ty "ValueError") (by rfl) W yE rfl) ag))))) (wc (gJ (cb rY (by rfl) B.isi fH (aR (pv 0) (uL (dZ (aR (hU (v:=.ref CF) (by rfl) N.mF rfl) (aR (hU (v:=.ref CMd) (by rfl) N.mM rfl) (aR (hU (v:=.ref CR) (by rfl) N.mR rfl) (aR (hU (v:=.ref CTx) (by rfl) N.mT rfl) ag))))) ag)))))).pt) (aA (bE bS)) bP)
  (ah (cH ((jA (gJ (cb eV (by rfl) B.isi fH (aR (pv 0) (aR (hU (v:=.ref CN) (by rfl) N.mN rfl) ag)))) (iM (ny (gJ (cb eV (by rfl) B.isi fH (aR (pv 0) (aR (hU (v:=.ref CL) (by rfl) N.mL rfl) ag))))))).pt) (aA (bE bS)) bP)
  (ah (cH ((jA (gJ (cb eV (by rfl) B.isi fH (aR (pv 0) (aR (hU (v:=.ref CL) (by rfl) N.mL rfl) ag)))) (iM (ny (gJ (cb eV (by rfl) B.isi fH (aR (pv 0) (aR (hU (v:=.ref CN) (by rfl) N.mN rfl) ag))))))).pt) (aA (bE bS)) bP)
  (aA (bE bS))))),?_⟩
 rcases h with⟨ha,q⟩|⟨ha,q⟩
 ·refine bU (fh {_,rfl,a,CN,_,_,_,rfl,(rfl:RelV (.ty "tuple") (Value.type "tuple")),(fun u z=>z),ha,N.xN,N.tN,_,rfl,eE ?_});dsimp only[jq];refine bU (fh {_,rfl,a,CN,_,_,_,rfl,(rfl:RelV (.ty "ValueError") (Value.type "ValueError")),(fun u z=>z),ha,N.xN,N.vN,_,rfl,eE ?_});refine{_,rfl,by show 4<=aB;decide,fun Y Z=>?_};have st:=aE Z (.tup [.ref CF,.ref CMd,.ref CR,.ref CTx]);refine{a,CN,Y,[CF,CMd,CR,CTx],false,rfl,aj,st _ _ ha,N.xN,N.oN,_,rfl,eE ?_};dsimp only[jq];refine bU (fh {_,rfl,a,CN,_,_,_,rfl,(rfl:RelV (.ref CN) (Value.ref CN)),(fun u z=>z),st _ _ ha,N.xN,N.nn,_,rfl,gG ?_});refine{_,rfl,a,CN,_,_,_,rfl,(rfl:RelV (.ref CL) (Value.ref CL)),(fun u z=>z),st _ _ ha,N.xN,N.nl,_,rfl,gG ?_};exact q _ st
 ·refine bU (fh {_,rfl,a,CL,_,_,_,rfl,(rfl:RelV (.ty "tuple") (Value.type "tuple")),(fun u z=>z),ha,N.xL,N.tL,_,rfl,eE ?_});dsimp only[jq];refine bU (fh {_,rfl,a,CL,_,_,_,rfl,(rfl:RelV (.ty "ValueError") (Value.type "ValueError")),(fun u z=>z),ha,N.xL,N.vL,_,rfl,eE ?_});refine{_,rfl,by show 4<=aB;decide,fun Y Z=>?_};have st:=aE Z (.tup [.ref CF,.ref CMd,.ref CR,.ref CTx]);refine{a,CL,Y,[CF,CMd,CR,CTx],false,rfl,aj,st _ _ ha,N.xL,N.oL,_,rfl,eE ?_};dsimp only[jq];refine bU (fh {_,rfl,a,CL,_,_,_,rfl,(rfl:RelV (.ref CN) (Value.ref CN)),(fun u z=>z),st _ _ ha,N.xL,N.ln,_,rfl,eE ?_});refine eE ?_;dsimp only[jq];refine bU (fh {_,rfl,a,CL,_,_,_,rfl,(rfl:RelV (.ref CL) (Value.ref CL)),(fun u z=>z),st _ _ ha,N.xL,N.ll,_,rfl,gG ?_});refine{_,rfl,a,CL,_,_,_,rfl,(rfl:RelV (.ref CN) (Value.ref CN)),(fun u z=>z),st _ _ ha,N.xL,N.ln,_,rfl,gG ?_};exact q _ st
end
theorem vX{H:Hp}{n:Nat}{p q:aa}{xs:List V}(hp:H p=some (.tup xs))(hq:H q=some (.tup xs))(sc:∀x∈xs,sc0 x):TEq H (n+1) (.ref p) (.ref q):=
 .inr (.inr ⟨p,q,xs,xs,rfl,rfl,hp,hq,by
  clear hp hq
  induction xs with
  |nil=>exact .nil
  |cons x xs Z=>
   refine .cons ?_ (Z fun y hy=>sc y (ak _ hy))
   cases n with
   |zero=>exact{sc x aC,rfl}
   |succ n=>exact .inl {sc x aC,rfl}⟩)
theorem xp{H:Hp}{n:Nat}{Y:Type}{R S:V->Y->Prop}(f:∀x y a,R x a->S y a->TEq H n x y):∀{xs ys:List V} {Z:List Y},aK R xs Z->aK S ys Z->aK (TEq H n) xs ys:=by
 intro xs ys Z p
 induction p generalizing ys with
 |nil=>
  intro q
  cases q;exact .nil
 |cons a b W=>
  intro q
  cases q with
  |cons c d=>exact .cons (f _ _ _ a c) (W d)
theorem Le{H:Hp}{n:Nat}{xs ys Y Z:List V}(a:aK (TEq H n) xs ys)(b:aK (TEq H n) Y Z):aK (TEq H n) (xs++Y) (ys++Z):=by
 induction a with
 |nil=>exact b
 |cons h _ W=>exact .cons h W
theorem j0{H:Hp}{n:Nat}{x:V}(h:sc0 x):TEq H n x x:=by
 cases n with
 |zero=>exact⟨h,rfl⟩
 |succ n=>exact .inl ⟨h,rfl⟩
theorem vY{H:Hp}{n:Nat}{a b:aa}{h:Ev}(ha:H a=some (B6 h))(hb:H b=some (B6 h)):TEq H (n+1) (.ref a) (.ref b):=
 vX ha hb fun x hx=>by
  simp only[ar,aV,or_false]at hx
  rcases hx with rfl|rfl|rfl|rfl<;>trivial
theorem OK{H:Hp}{n:Nat}{v W:V}{e:Ev}(h:ib H v e)(h':ib H W e):TEq H (n+2) v W:=by
 obtain⟨t,k,rfl,h1,h2⟩:=h;obtain⟨t',k',rfl,Z,Y⟩:=h';exact .inr (.inr {t,t',_,_,rfl,rfl,h1,Z,.cons (vY h2 Y) (.cons (j0 trivial) (.cons (j0 trivial) (.cons (j0 trivial) (.cons (j0 trivial) .nil))))})
theorem AW{H:Hp}{n:Nat}{a b:aa}{ns:List Int}(ha:H a=some (.lst (ns.map V.int)))(hb:H b=some (.lst (ns.map V.int))):TEq H (n+1) (.ref a) (.ref b):=
 .inr (.inl ⟨a,b,_,_,rfl,rfl,ha,hb,by
  clear ha hb
  induction ns with
  |nil=>exact .nil
  |cons x xs Z=>exact .cons (j0 trivial) Z⟩)
theorem Jd{H:Hp}{n:Nat}:∀{qs:List (Str×List Int)} {qa Y:List (Str×aa)} {U Z:List V},gE H qa qs->gE H Y qs->aK (AH H) U qa->aK (AH H) Z Y->aK (TEq H (n+2)) U Z
 | [],qa,Y,U,Z,e,g,a,c=>by
  cases e
  cases g
  cases a
  cases c;exact .nil
 |q::qs,qa,Y,U,Z,e,g,a,c=>by
  cases e with
  |cons e f=>
  cases g with
  |cons g h=>
  cases a with
  |cons a b=>
  cases c with
  |cons c d=>
  obtain⟨t,rfl,h1⟩:=a;obtain⟨t',rfl,W⟩:=c;obtain⟨e1,J⟩:=e;obtain⟨g1,O⟩:=g;rw[e1]at h1;rw[g1]at W;exact .cons (.inr (.inr {t,t',_,_,rfl,rfl,h1,W,.cons (j0 trivial) (.cons (AW J O) .nil)})) (Jd f h b d)
theorem Lg{H:Hp}{n:Nat}{v v':V}{q:Rec}(h:RcIn H v q)(h':RcIn H v' q):TEq H (n+4) v v':=by
 obtain⟨rc,k,wl,od,U,O,vs,qa,rfl,h1,h2,h3,h4,h5,h6,h7,h8⟩:=h;obtain⟨J,k',ce,I,Y,Z,bG,bH,rfl,bW,D,W,cd,g,cp,bI,ci⟩:=h';have w1:aK (TEq H (n+2)) U Y:=xp (R:=zq H) (S:=zq H) (fun x y a hx hy=>by
  obtain⟨t,rfl,z⟩:=hx;obtain⟨t',rfl,z'⟩:=hy;exact vX z z' fun x hx=>by
   simp only[ar,aV,or_false]at hx
   rcases hx with rfl|rfl<;>trivial) h4 cd
 have w2:aK (TEq H (n+2)) O Z:=Jd h6 cp h5 g;refine .inr (.inr {rc,J,_,_,rfl,rfl,h1,bW,.cons (vY h2 D) (.cons (j0 trivial) (.cons (j0 trivial) (.cons (j0 trivial) (.cons (j0 trivial) (.cons ?_ (.cons ?_ .nil))))))})
 ·exact .inr (.inl {wl,ce,_,_,rfl,rfl,h3,W,Le w1 w2})
 ·exact .inr (.inl {od,I,_,_,rfl,rfl,h7,bI,xp (R:=ib H) (S:=ib H) (fun x y a hx hy=>OK hx hy) h8 ci})
theorem AX{H:Hp}{a b:aa}{xs ys:List V}{rs:List Rec}(ha:H a=some (.lst xs))(hb:H b=some (.lst ys))(Y:aK (RcIn H) xs rs)(Z:aK (RcIn H) ys rs):TEq H 5 (.ref a) (.ref b):=
 .inr (.inl {a,b,xs,ys,rfl,rfl,ha,hb,xp (R:=RcIn H) (S:=RcIn H) (fun x y q hx hy=>Lg hx hy) Y Z})
theorem AY{Y Z:Type}{R:Y->Z->Prop}:∀{xs:List Y} {ys:List Z} (n:Nat),aK R xs ys->aK R (xs.take n) (ys.take n)
 |_,_,0,_=>.nil
 |_,_,_+1,.nil=>.nil
 |_,_,n+1,.cons a b=>.cons a (AY n b)
theorem jd.same{Ms:List MD}{r:RS}{Z:Int}{i Y:Nat}{e W:End}(a:jd Ms r Z i e)(b:jd Ms r Z Y W):i=Y/\e=W:=by
 have V:i=Y:=by
  rcases Jr i Y with z|z|z
  ·have:=(b.1 i z).2;rw[a.2.1]at this
   cases this
  ·exact z
  ·have:=(a.1 Y z).2;rw[b.2.1]at this
   cases this
 subst V;have:=a.2.1.symm.trans b.2.1
 cases this;exact⟨rfl,rfl⟩
theorem Fg{xs:List V}{k:Nat}(h:k<=xs.length):nF xs none (some (k:Int))=xs.take k:=by
 unfold nF;rw[HT.sIx_nat,HT.sIx_none,rR,Nat.sub_zero,MH h]
theorem yF{xs:List V}{k:Nat}(h:k<=xs.length):nF xs (some (k:Int)) none=xs.drop k:=by
 unfold nF;rw[HT.sIx_nat,HT.sIx_none,MH h,A8 (by rw[kM];exact ax _)]
theorem MI{Y Z:Type}{F:Y->Z->Prop}:∀{xs:List Y} {ys:List Z} (k:Nat),aK F xs ys->aK F (xs.take k) (ys.take k)
 |_,_,0,_=>.nil
 |_,_,_+1,.nil=>.nil
 |_,_,k+1,.cons a b=>.cons a (MI k b)
theorem Je{Y Z:Type}{F:Y->Z->Prop}:∀{xs:List Y} {ys:List Z} (k:Nat),aK F xs ys->aK F (xs.drop k) (ys.drop k)
 |_,_,0,h=>h
 |_,_,_+1,.nil=>.nil
 |_,_,k+1,.cons a b=>Je k b
theorem Jf{H:Hp}{n:Nat}{v W:V}:∀{e:End},lA H v e->lA H W e->TEq H (n+3) v W
 |.empty,⟨t,e1,h1⟩,⟨t',Z,h2⟩=>by
  subst e1 Z;exact vX h1 h2 fun x hx=>by
   rw[aD.mp hx];exact trivial
 |.cut,⟨t,e1,h1⟩,⟨t',Z,h2⟩=>by
  subst e1 Z;exact vX h1 h2 fun x hx=>by
   rw[aD.mp hx];exact trivial
 |.stp (.fin _),⟨t,k,e1,h1,g1⟩,⟨t',k',Z,h2,Y⟩=>by
  subst e1 Z;exact .inr (.inr {t,t',_,_,rfl,rfl,h1,h2,.cons (j0 trivial) (.cons (vY g1 Y) .nil)})
 |.stp (.flt _ _),⟨t,k,e1,h1,g1⟩,⟨t',k',Z,h2,Y⟩=>by
  subst e1 Z;exact .inr (.inr {t,t',_,_,rfl,rfl,h1,h2,.cons (j0 trivial) (.cons (j0 trivial) (.cons (vY g1 Y) .nil))})
theorem uP{H:Hp}{t t' rl Z:aa}{en Y:V}{xs ys:List V}{rs:List Rec}{e:End}(h1:H t=some (.tup [.ref rl,en]))(h2:H t'=some (.tup [.ref Z,Y]))(g1:H rl=some (.lst xs))(W:H Z=some (.lst ys))(O:aK (RcIn H) xs rs)(p2:aK (RcIn H) ys rs)(e1:lA H en e)(U:lA H Y e):TEq H 6 (.ref t) (.ref t'):=
 .inr (.inr {t,t',_,_,rfl,rfl,h1,h2,.cons (AX g1 W O p2) (.cons (Jf (n:=2) e1 U) .nil)})
section
variable{P:aM}{w:bO}{K:af}{mg:Str->Option ae}{base:cC}{f fPl CM CS CB:aa}{fd fdPl:bX}
seal PS PSs PE PA PT PW PI PG PGs PC
abbrev nDu:List Str:=["_law_records","_law_count","_law_number","_law_sign_here","_law_key"]
abbrev pDu:List Str:=["_law_records","_law_count","_law_number","_law_sign_here"]
theorem scDu:bN nDu pDu (aL oE):={}
inductive MJ(vs:List V)(H:Hp)(Q:VK)(_e:XK):Prop where
 |mk(rl:aa)(sv:V)(x:Ev)(rvs:List V)(c n:Int)(b:Bool)(_:vs=[.ref rl,.int c,.int n,sv])(_:mI H sv x)(_:H rl=some (.lst rvs))(_:(n<=0->b=true))(_:(0<n->∃v q,atI rvs (n-1)=some v/\RcIn H v q/\HT.lexLt q.h.key [x.t,x.r,-1,c]=b))(_:∀G,bh H G->Q (.str (if b=true then "told" else "late")) G):MJ vs H Q _e
def spDu:Sp:=fun vs H Q Z=>MJ vs H Q Z
theorem ok_du(D:Df K mg "_law_due" oE pDu f fd)(B:Bl mg):bL P w K mg base CX0 1 f fd pDu spDu:=by
 refine D.F.ok scDu (fun vs H Q E h=>?_) (fun U A outer s H vs Q E hr h=>?_)
 ·obtain⟨rl,sv,x,Z,c,n,b,rfl,_⟩:=h;rfl
 obtain⟨rl,sv,x,Z,c,n,b,rfl,⟨I,rfl,Y⟩,O,h0,h1,q⟩:=h;have V:(A.deeper (xR "_law_due" (aL oE) s.heap.objs.size f U)).units<eN:=by
  have:=BF hr;omega
 have big:=d9;refine⟨_,ah (cH (bQ uS (pv 2) av (cq _)) (ah (bJ (i:=4) scDu.nd rfl (Or.inl rfl) (dZ (pI (bY cA (pv 3) av (fun _ _=>rfl)) (pI (bY cA (pv 3) av (fun _ _=>rfl)) (aq (Ck yP av) (aR (pv 1) ag))))))
  (aA (cH (bQ (Jb V) (pv 4) (bY cA (bY dO (pv 0) (cR jk (pv 2) av) (fun _ _=>rfl)) av (fun _ _=>rfl)) (cq _)) (aA (bE bS)) bP))) bP)
  (aA (bE bS)),?_⟩
 refine bU (fh {_,rfl,_,_,rfl,rfl,_,rfl,?_})
 by_cases c0:0<n
 ·rw[decide_eq_true c0];refine gG ?_;obtain⟨v,y,g1,g,g3⟩:=h1 c0;refine bU (cO {_,rfl,I,_,0,.int x.t,rfl,rfl,SqT.of Y,rfl,_,rfl,I,_,1,.int x.r,rfl,rfl,SqT.of Y,rfl,1,rfl,_,rfl,by show 4<=aB;omega,fun tk W=>bK ?_});have u:=aE W (.tup [.int x.t,.int x.r,.int (-1),.int c]);obtain⟨J,kk,wl,od,z,bn,vs,qa,rfl,y1,y2,_⟩:=id (RcIn.same u g);dsimp only;refine fh {_,rfl,_,rfl,_,rfl,_,_,rfl,rfl,rl,Z,n-1,.ref J,rfl,rfl,SqL.of (u _ _ O),g1,J,_,0,.ref kk,rfl,rfl,SqT.of y1,rfl,tk,kk,[x.t,x.r,-1,c],y.h.key,rfl,rfl,aj,y2,_,rfl,?_};rw[g3]
  cases b with
  |true=>exact eE (q _ u)
  |false=>exact gG (q _ u)
 ·rw[decide_eq_false c0];refine eE ?_;have hb:=h0 (by omega);subst hb;exact q _ (bh.refl _)
abbrev nRt:List Str:=["_law_model","_law_signs_here","_law_sign_here","_law_number","_law_most","_law_told","_law_book","_law_ahead"]
abbrev pRt:List Str:=["_law_model","_law_signs_here","_law_sign_here","_law_number","_law_most","_law_told"]
theorem OL:bN nRt pRt (aL m5):={}
inductive MK(CM:aa)(vs:List V)(H:Hp)(Q:VK)(_e:XK):Prop where
 |mk(Ms:List MD)(es:List Ev)(x:Ev)(m sg t rl:aa)(sv en:V)(rvs:List V)(n i:Nat)(most:Int)(r:RS)(e:End)(_:vs=[.ref m,.ref sg,sv,.int n,.int most,.ref t])(_:Rn CM Ms es H m sg)(_:es.length<60)(_:mI H sv x)(_:qR Ms.length x)(_:n<=100)(_:0<=most)(_:most<=100)(_:Mrk Ms es n r)(_:tY r (atP x es.length))(_:jd Ms (wit (atP x es.length) r) most i e)(_:H t=some (.tup [.ref rl,en]))(_:H rl=some (.lst rvs))(_:aK (RcIn H) rvs (itR Ms (wit (atP x es.length) r) i).2)(_:lA H en e)(_:∀G,bh H G->Q (.bl true) G):MK CM vs H Q _e
def spRt(CM:aa):Sp:=fun vs H Q Z=>MK CM vs H Q Z
theorem ok_rt(D:Df K mg "_law_right" m5 pRt f fd)(Z:Df K mg "plain" tI ["model","signs","most"] fPl fdPl)(gq:bL P w K mg base CX0 40 fPl fdPl ["model","signs","most"] (ID CM CS CB))(U:BkT K mg CB)(B:Bl mg):bL P w K mg base CX0 41 f fd pRt (spRt CM):=by
 refine D.F.ok OL (fun vs H Q E h=>?_) (fun eh A outer s H vs Q E hr h=>?_)
 ·obtain⟨Ms,es,x,m,sg,t,rl,sv,en,ew,n,i,O,r,e,rfl,_⟩:=h;rfl
 obtain⟨Ms,es,x,m,sg,t,rl,sv,en,ew,n,i,O,r,e,rfl,R,el,hs,hx,n1,fx,ef,hM,pa,hS,ht,fe,pR,hE,q⟩:=h;have ge:=BF hr;have gr:cZ 40 _:=hr;have big:=d9;have mo:=R.mo.ok;refine⟨_,ah (bJ (i:=6) OL.nd rfl (Or.inl rfl) (aI gq gr (by rfl) Z.m Z.F.kp Z.b .nil bC (aR (pv 0) (oR (cR By (pv 1) (eU (aR (pv 2) ag))) (oR (cR gK (pv 3) (pv 4)) ag)))))
  (ah (bJ (i:=7) OL.nd rfl (Or.inl rfl) (d7 K (by rfl) (aI gq gr (by rfl) Z.m Z.F.kp Z.b .nil bC (aR (pv 0) (aR (pv 1) (aR (pv 3) ag)))) (by rfl)))
  (aA (bE (M7 (oW (BH ge) (om tD (d7 K (by rfl) (pv 6) (by rfl)) rg (rh (pv 3))) (pv 7) (cq _)) (M5 (oW (BH ge) (pv 5) (dZ (pI (om tD (d7 K (by rfl) (pv 6) (by rfl)) (rh (pv 3)) rg) (aq (d7 K (by rfl) (pv 6) (by rfl)) ag))) (cq _))))))),?_⟩
 obtain⟨Y,fa,gw⟩:=R.sg;have ee:=aZ gw;refine bU (cO {_,rfl,_,rfl,_,rfl,by show 1<=aB;omega,fun l1 et=>?_});have u1:=aE et (.lst [sv]);refine{sg,l1,Y,[sv],rfl,rfl,u1 _ _ fa,aj,by show Y.length+1<=aB;omega,fun l2 ey=>?_};have u2:=aE ey (.lst (Y++[sv]));have V:=u1.trans u2;refine{_,rfl,_,rfl,_,_,rfl,rfl,?_};refine rW ?_;refine{Ms,m,l2,Y++[sv],es++[x],(n:Int)+O,rfl,R.mo.same V,R.lm,aj,Ce (Paired.mono (fun _ _ z=>mI.same V z) gw) (.cons (hs.same V) .nil),by rw[ay];show es.length+1<64;omega,(fun e he=>(bZ.mp he).elim (fun z=>R.ev e z) fun z=>by rw[aD.mp z];exact hx),by omega,fun G1 b1 i1 e1 s1 fy eH=>bK ?_};dsimp only;obtain⟨I,ft⟩:=hM.fork mo hx pa;obtain⟨St,dr⟩:=I.on hS fx;obtain⟨rfl,rfl⟩:=fy.same St;have sA:=V.trans s1;have R1:=R.same sA;obtain⟨gt,gd,gM⟩:=R1.sg;refine bU (cO {_,rfl,_,rfl,_,rfl,?_});refine rW ?_;refine{Ms,m,sg,gt,es,n,rfl,R1.mo,R1.lm,gd,gM,R1.le,R1.ev,by omega,fun G2 b2 i2 e2 s2 ha fk=>?_};obtain⟨hg,gl,ec,fo,W,ej,g1,g2,g3,g4,_⟩:=eH.ex;obtain⟨ez,er,ek,eo,em,ed,j1,j2,j3,j4,_⟩:=fk.ex;have ei:i2=n:=by
  rcases Jr i2 n with z|z|z
  ·have d1:=(hM.d i2 z).2;have d2:=ha.2.1;have l0:=hM.l i2 (by omega);rw[tX d1 (by omega)]at d2
   cases d2
  ·exact z
  ·have d1:=(gx (ha.1 n z).2).2.2;have l0:=hM.l n (ax _);omega
 subst ei;refine{b2,CB,ez,_,_,rfl,cW _ _ j1,U.cl,U.nR,Ij _ _ _,bK ?_};dsimp only;have g:=s2 _ _ (cW _ _ g1);have J:=s2 _ _ (cW _ _ g2);have sB:=(cW (ex:={[],upd (upd H l1 (.lst [sv])) l2 (.lst (Y++[sv]))}) (G:=G1)).trans s2;have p1:=Paired.mono (fun _ _ z=>RcIn.same sB z) g3;have p2:=Paired.mono (fun _ _ z=>RcIn.same cW z) j3;have l3:=aZ p1;have tk:(itR Ms (cS Ms (es++[x])) (i2+i)).2.take i2=(itR Ms (cS Ms es) i2).2:=by
  rw[nj];show ((itR Ms (cS Ms (es++[x])) i2).2++_).take i2=_;rw[List.take_left' (I.l i2 (ax _)),ft]
 have ln:i2<=W.length:=by
  rw[l3,nj];show i2<=((itR Ms (cS Ms (es++[x])) i2).2++_).length;rw[ay,I.l i2 (ax _)];omega
 have q1:=MI i2 p1;rw[tk]at q1;have q2:=Je i2 p1;rw[dr]at q2;refine eW {_,rfl,b1,CB,hg,_,_,rfl,g,U.cl,U.nR,Ij _ _ _,_,rfl,_,rfl,gl,W,rfl,SqL.of J,fun l3 eF=>?_};rw[Fg ln];have v1:=aE eF (.lst (W.take i2));refine{_,rfl,5,by decide,AX aj (v1 _ _ (cW _ _ j2)) (Paired.mono (fun _ _ z=>RcIn.same v1 z) q1) (Paired.mono (fun _ _ z=>RcIn.same v1 z) p2),_,rfl,gG ?_};refine{_,rfl,_,rfl,b1,CB,hg,_,_,rfl,v1 _ _ g,U.cl,U.nR,Ij _ _ _,_,rfl,_,rfl,gl,W,rfl,SqL.of (v1 _ _ J),fun l4 eL=>?_};rw[yF ln];have v2:=aE eL (.lst (W.drop i2));have fG:=v1.trans v2;refine{_,rfl,b1,CB,hg,_,_,rfl,fG _ _ g,U.cl,U.nE,bk_e _ _ _,lt2,fun t4 fz=>?_};have v3:=aE fz (.tup [.ref l4,fo]);have hf:=fG.trans v3;have sT:=sA.trans (s2.trans hf);refine{6,by decide,uP (sT _ _ ht) aj (sT _ _ fe) (v3 _ _ aj) (Paired.mono (fun _ _ z=>RcIn.same sT z) pR) (Paired.mono (fun _ _ z=>RcIn.same hf z) q2) (hE.same sT) ((g4.same sB).same hf),q _ sT}
end
section
variable{P:aM}{w:bO}{K:af}{mg:Str->Option ae}{base:cC}{f fSg fD fW:aa}{fd fdSg fdD fdW:bX}
seal PS PSs PE PA PT PW PI PG PGs PC
abbrev nNr:List Str:=["_law_purse_here","_law_many","_law_records","_law_sign_here","_law_key","_law_time"]
abbrev pNr:List Str:=["_law_purse_here","_law_many","_law_records"]
theorem Lh:bN nNr pNr (aL pC):={}
inductive ML(vs:List V)(H:Hp)(Q:VK)(_e:XK):Prop where
 |mk(p rl:aa)(m:Nat)(rvs:List V)(rs:List Rec)(_:vs=[.ref p,.int m,.ref rl])(_:dE H p)(_:0<m)(_:m<1000)(_:Wp p H rl=some (.lst rvs))(_:aK (RcIn (Wp p H)) rvs rs)(_:rvs.length<=1000)(_:∀(v:V) (e:Ev) (H':Hp),mI H' v e->qR m e->dE H' p->But p H H'->Q v H'):ML vs H Q _e
def spNr:Sp:=fun vs H Q Z=>ML vs H Q Z
theorem ok_nr(D:Df K mg "_law_near" pC pNr f fd)(J:Df K mg "_law_sign" lW pSg fSg fdSg)(Y:Df K mg "_law_draw" eC pD fD fdD)(DW:Df K mg "_law_worth" gb pW fW fdW)(B:Bl mg)(MM:mg "min"=none):bL P w K mg base CX0 4 f fd pNr spNr:=by
 have GD:bL P w K mg base CX0 1 fD fdD pD jL:=jM Y;have eL:bL P w K mg base CX0 3 fSg fdSg pSg OC:=Mj J Y DW B;refine D.F.ok Lh (fun vs H Q E h=>?_) (fun em A outer s H vs Q E hr h=>?_)
 ·obtain⟨p,rl,m,Z,rs,rfl,_⟩:=h;rfl
 obtain⟨p,rl,m,Z,rs,rfl,pu,m0,m1,ge,pR,lr,q⟩:=h;have fa:=BF hr;have r1:cZ 1 _:=hr.mono (by decide);have r3:cZ 3 _:=hr;have big:=d9;refine⟨_,ah (bJ (i:=3) Lh.nd rfl (Or.inl rfl) (aI eL r3 (by rfl) J.m J.F.kp J.b .nil bC (aR (pv 0) (aR (pv 1) ag))))
  (ah (cH ((z7 (bQ (IM fa) (pv 2) (eU ag) (cq _)) (wc (bQ fc (aI GD r1 (by rfl) Y.m Y.F.kp Y.b .nil bC (aR (pv 0) (dS av ag))) av (cq _)))).pt) (aA (bE (pv 3))) bP)
  (ah (bJ (i:=4) Lh.nd rfl (Or.inl rfl) (bY cA (bY dO (pv 2) (aI GD r1 (by rfl) Y.m Y.F.kp Y.b .nil bC (aR (pv 0) (iz (cb (eu K (by rfl)) (by rfl) B.len cu (aR (pv 2) ag)) ag))) (fun _ _=>rfl)) av (fun _ _=>rfl)))
  (ah (bJ (i:=5) Lh.nd rfl (Or.inl rfl) (cb (xW rfl) (by rfl) MM yD (oR (cR sy av av) (iz (cb (um rfl) (by rfl) B.max boot_max (dS av (oR (cR jk (cR gK (bY cA (pv 4) av (fun _ _=>rfl)) (aI GD r1 (by rfl) Y.m Y.F.kp Y.b .nil bC (aR (pv 0) (dS av ag)))) av) ag))) ag))))
  (aA (bE (cR Cw (dZ (aR (pv 5) (pI (bY dO (eU (pI (bY cA (pv 3) av (fun _ _=>rfl)) (pI (bY cA (pv 4) av (fun _ _=>rfl)) ag))) (aI GD r1 (by rfl) Y.m Y.F.kp Y.b .nil bC (aR (pv 0) (dS av ag))) (fun _ _=>rfl)) ag))) (om Nm (pv 3) (rh av) rg))))))),?_⟩
 refine bU (cO {_,rfl,_,rfl,p,m,rfl,pu,m0,m1,fun sv x Ga hs hx O ba=>bK ?_});dsimp only;have wa:bh (Wp p H) (Wp p Ga):=ba.wp;have gl:∀{G:Hp} {ts:aa} {xs:List V},dE G p->G ts=some (.tup xs)->ts≠p:=fun {G ts xs} pg h z=>by
  obtain⟨a,b,e⟩:=pg;rw[z,e]at h
  cases h
 refine vC (fun eH G=>eH=[some (.ref p),some (.int m),some (.ref rl),some sv,none,none]/\dE G p/\But p Ga G/\0<Z.length) ?_ ?_
 ·rintro _ G ⟨rfl,I,bg,l0⟩;have wg:bh (Wp p H) (Wp p G):=wa.trans bg.wp;refine bU (cO {_,rfl,_,rfl,_,rfl,rl,Z,rfl,.inl (SqL.of (rX (wg _ _ ge)).2),p,Z.length,rfl,I,by omega,by omega,fun d G1 d0 d1 fx b1=>?_});have w1:bh (Wp p H) (Wp p G1):=wg.trans b1.wp;obtain⟨dn,rfl⟩:∃dn:Nat,d=dn:={d.toNat,by omega};have dl:dn<Z.length:=by omega
  obtain⟨y,hy,hR⟩:=sU (i:=dn) (x:=Z[dn]) pR (aH dl);obtain⟨rc,kk,wl,od,er,eo,vs,qa,ev,y1,y2,_⟩:=RcIn.same (w1.trans (pK _ _)) hR;have ky:kk≠p:=gl fx y2;refine{rl,Z,(dn:Int),Z[dn],rfl,rfl,SqL.of (rX (w1 _ _ ge)).2,je (aH dl),rc,_,0,.ref kk,ev,rfl,SqT.of y1,rfl,bK ?_};dsimp only;refine bU (cO {10,6,rfl,rfl,{by decide,by decide,by decide},_,rfl,kk,_,0,.int y.h.t,rfl,rfl,SqT.of y2,rfl,_,rfl,p,3,rfl,fx,by decide,by decide,fun d2 G2 e0 e1 fy b2=>{_,_,rfl,rfl,_,_,rfl,rfl,_,_,rfl,_,_,rfl,bK ?_}});dsimp only;generalize hT:(if (if y.h.t+d2-1>0 then y.h.t+d2-1 else 0)<(10:Int)^(6:Int).toNat then (if y.h.t+d2-1>0 then y.h.t+d2-1 else 0) else (10:Int)^(6:Int).toNat)=T;have wT:Wo T:=by
   have e6:(10:Int)^(6:Int).toNat=1000000:=by decide
   rw[e6]at hT;have z0:0<=(if y.h.t+d2-1>0 then y.h.t+d2-1 else 0):=by split<;>omega
   generalize (if y.h.t+d2-1>0 then y.h.t+d2-1 else 0)=z at hT z0;unfold Wo;rw[<- hT]
   split<;>omega
  obtain⟨ts,rfl,U⟩:=hs;have tp:=gl O U;have g:=b2 _ _ (b1 _ _ (bg _ _ U tp) tp) tp;have ey:=b2 _ _ y2 ky;refine eW {_,rfl,_,rfl,ts,_,1,.int x.r,rfl,rfl,SqT.of g,rfl,_,rfl,kk,_,1,.int y.h.r,rfl,rfl,SqT.of ey,rfl,lt2,fun l5 ft=>?_};have W:=aE ft (.lst [.int x.r,.int y.h.r]);refine{_,rfl,p,2,rfl,fy.same W,by decide,by decide,fun d3 G3 f0 f1 fo b3=>?_};obtain⟨rr,fe⟩:∃rr:Int,atI [V.int x.r,.int y.h.r] d3=some (.int rr):=by
   have cs:d3=0\/d3=1:=by omega
   rcases cs with rfl|rfl
   ·exact{_,rfl}
   ·exact{_,rfl}
  have fG:=b3 _ _ (W _ _ g) tp;refine{l5,_,d3,.int rr,rfl,rfl,SqL.of (b3 _ _ aj (sQ fy ft)),fe,lt2,fun t6 ez=>?_};have v2:=aE ez (.tup [.int T,.int rr]);refine{_,rfl,2,rfl,ts,_,rfl,SqT.of (v2 _ _ fG),(fun z=>absurd z.1 (by show ¬HT.sIx 6 0 (some 2)=0;decide)),fun t7 et=>?_};have v3:=aE et (.tup (nF [.int x.t,.int x.r,.int x.to,.str x.sg,.int x.a,.int x.b] (some 2) none));refine{t6,t7,[V.int T,.int rr],_,rfl,rfl,SqT.of (v3 _ _ aj),SqT.of aj,(fun z=>by cases z),(by show 2+4<=aB;omega),(fun z=>by cases z),fun _ t8 eF=>?_};have v4:=aE eF (.tup ([V.int T,.int rr]++nF [.int x.t,.int x.r,.int x.to,.str x.sg,.int x.a,.int x.b] (some 2) none));have fz:=v2.trans (v3.trans v4);refine q (.ref t8) {x with t:=T,r:=rr} _ {t8,rfl,by rw[aj];rfl} ⟨hx.to0,hx.to1,wT,hx.wa,hx.wb⟩ (fo.same fz) ?_;exact fun a o e n=>fz _ _ (b3 _ _ (W _ _ (b2 _ _ (b1 _ _ (bg _ _ (ba _ _ e n) n) n) n)) n)
 ·intro N hN;have fk:=(rX (wa _ _ ge)).2;refine fh {_,rfl,cm _,fun l hl=>{rl,l,Z,rfl,rfl,(aE hl (.lst [])) _ _ fk,aj,_,rfl,?_}};have W:=aE hl (.lst []);have gd:=hs.same W
  cases Z with
  |nil=>exact gG (gG (eW {_,rfl,q sv x _ gd hx (O.same W) fun a o e n=>W _ _ (ba _ _ e n)}))
  |cons v0 ew=>
   refine eE {_,rfl,p,3,rfl,O.same W,by decide,by decide,fun d G d0 d1 I bg=>{rfl,_,rfl,?_}}
   by_cases c:V.int d=V.int 0
   ·rw[decide_eq_true c];obtain⟨ts,rfl,U⟩:=gd;exact gG (eW {_,rfl,q _ x _ {ts,rfl,bg _ _ U (gl (O.same W) U)} hx I fun a o e n=>bg _ _ (W _ _ (ba _ _ e n)) n})
   ·rw[decide_eq_false c];exact eE (hN _ _ {rfl,I,fun a o e n=>bg _ _ (W _ _ e) n,by show 0<ew.length+1;omega})
end
section
variable{Ms:List MD}{es:List Ev}
theorem OM(mo:p5 Ms){k:Int}{i n:Nat}{e:End}(s:jd Ms (cS Ms es) k i e)(h:n<=(itR Ms (cS Ms es) i).2.length):Mrk Ms es n (itR Ms (cS Ms es) n).1:=by
 obtain⟨Z,W⟩:=IS mo s.1;refine{rfl,fun j Y=>?_,fun j Y=>{(s.1 j (by omega)).1,Ed (s.1 j (by omega)).2}}
 by_cases c:j<i
 ·exact Z j c
 ·have:j=i:=by omega
  subst this;omega
theorem Li(mo:p5 Ms){n:Nat}{r:RS}(m:Mrk Ms es (n+1) r):∃q,(itR Ms (cS Ms es) (n+1)).2[n]?=some q/\r.re=some q.h/\qR Ms.length q.h:=by
 have Z:=m.l (n+1) (ax _);have Y:=m.l n (by omega);have d:=m.d n (by omega);rw[m.e];show ∃q,((itR Ms (cS Ms es) n).2++(eJ Ms (itR Ms (cS Ms es) n).1).2)[n]?=some q/\(eJ Ms (itR Ms (cS Ms es) n).1).1.re=some q.h/\qR Ms.length q.h;have Z:((itR Ms (cS Ms es) n).2++(eJ Ms (itR Ms (cS Ms es) n).1).2).length=n+1:=Z
 cases kg mo d.1 (gx d.2).2.1 with
 |err h M s e d' q eq=>
  rw[eq,cL]at Z;omega
 |ok h M s w d' q N eq=>
  refine{{h,wrB M.bs w,wrQ M.qs w,w.out},?_,?_,d.1.ev h (by rw[d'.pd];exact bj _ (aD.mpr rfl))}
  ·rw[eq,df (by omega),Y,mJ];rfl
  ·rw[eq]
theorem ON{r:RS}{x:Ev}(m:Mrk Ms es 0 r):tY r x:=fun h hh=>by
 rw[m.e]at hh
 cases hh
end
theorem ks_in{kvs:List (Key×V)}{ev:Int}{q n:Nat}(h:kvs.map (·.1)=oS (q/ev.toNat) ev)(e1:1<=ev)(l:n<=q)(d:n%ev.toNat=0):(n:Int)∈kK kvs:=by
 have e:kK kvs=(kvs.map (·.1)).map fun k=>match k with
   |.inl n=>n
   |.inr _=>0:=by
  rw[dA];rfl
 rw[e,h];unfold oS;rw[dA];have p:0<ev.toNat:=by omega
 refine cD.mpr {n/ev.toNat,rM.mpr ?_,?_}
 ·have:=Nat.div_le_div_right (c:=ev.toNat) l;omega
 ·show ((n/ev.toNat*ev.toNat:Nat):Int)=n;rw[Nat.div_mul_cancel (Nat.dvd_of_mod_eq_zero d)]
noncomputable def Vw(l:List aa)(G:Hp):Hp:=Hid {l,fun _=>none} G
section
variable{l:List aa}{G H:Hp}{a k:aa}{o:HO}
theorem OO(h:a∈({l,fun _=>none}:Ex)):a∈l:=h.elim id fun⟨_,e,_⟩=>by cases e
theorem Eh(n:a∉l)(h:G a=some o):Vw l G a=some o:=by
 unfold Vw;rw[eg fun z=>n (OO z)];exact h
theorem AZ(h:Vw l G a=some o):a∉l/\G a=some o:={fun z=>gO h (.inl z),cW _ _ h}
theorem OP(b:But k H G)(m:k∈l):bh (Vw l H) (Vw l G):=fun _ _ e=>Eh (AZ e).1 (b _ _ (AZ e).2 fun z=>(AZ e).1 (by rw[z];exact m))
theorem MP(m:k∈l):bh (Vw l G) (Wp k G):=fun _ _ e=>ji (AZ e).2 fun z=>(AZ e).1 (by rw[z];exact m)
end
theorem Lj{CK CM:aa}{Ms:List MD}{es:List Ev}{p m sg k dx:aa}{ev:Int}{H:Hp}{R:VK}{E:XK}(M:MoT CM Ms (Wp p H) m)(J:Rn CM Ms es (Wp p H) m sg)(e1:1<=ev)(D:ev<=100)(hk:H k=none)(U:H dx=none)
  (q:∀(G:Hp) (W Z:aa) (v:V),bh H G->G k=some (.ins CK dx (lB (.ref W) (.ref Z) (.int ev) v))->Rn CM Ms es (Hid {[k],H} G) W Z->R .non G):OG CK CM [.ref k,.ref m,.ref sg,.int ev] (upd (upd H dx (.own k)) k (.ins CK dx [])) R E:=by
 have Y:bh H (upd (upd H dx (.own k)) k (.ins CK dx [])):=fun b o e=>by
  rw[aN (aw e hk),aN (aw e U)];exact e
 have nk:(upd (upd H dx (.own k)) k (.ins CK dx [])) k=some (.ins CK dx []):=aj;revert Y nk;generalize upd (upd H dx (.own k)) k (.ins CK dx [])=H6;intro Y nk;refine{Ms,es,k,dx,m,sg,ev,rfl,nk,(M.same (pK _ _)).same Y,(J.same (pK _ _)).same Y,e1,D,fun G W Z v b O I=>?_};refine q G W Z v (fun a o e=>b _ _ (Y _ _ e) (aw e hk)) O (I.same fun a o e=>?_);rw[eg fun z=>?_]
 ·exact cW _ _ e
 ·rcases z with z|⟨o',z,y⟩
  ·exact gO e (.inr {_,by rw[aD.mp z];exact nk,fun xs w=>by cases w})
  ·exact gO e (.inr {o',Y _ _ z,y})
section
variable{CK CC CM CS CB:aa}{Ms:List MD}{es:List Ev}{n:Nat}{l:List aa}{G G':Hp}{k k' dx m sl:aa}{ev:Int}{ran:Prop}
end
theorem Jg{G:Hp}{p:aa}(h:dE G p):∃o,G p=some o/\∀xs,o≠.tup xs:=by
 obtain⟨x,y,e⟩:=h;exact{_,e,fun xs z=>by cases z}
theorem ks_le{kvs:List (Key×V)}{ev:Int}{q n:Nat}(h:kvs.map (·.1)=oS (q/ev.toNat) ev)(c:(n:Int)∈kK kvs):n<=q:=by
 have e:kK kvs=(kvs.map (·.1)).map fun k=>match k with
   |.inl n=>n
   |.inr _=>0:=by
  rw[dA];rfl
 rw[e,h]at c;unfold oS at c;rw[dA]at c;obtain⟨j,Y,Z⟩:=cD.mp c;have Y:=rM.mp Y;have Z:((j*ev.toNat:Nat):Int)=n:=Z;have e1:j*ev.toNat=n:=by omega
 have W:j*ev.toNat<=q/ev.toNat*ev.toNat:=sR _ (by omega);have e3:=Nat.div_mul_le_self q ev.toNat;omega
theorem MT{Ms:List MD}{es:List Ev}{k:Int}{i n:Nat}{e:End}{F:Hp}{Z:List V}(mo:p5 Ms)(s:jd Ms (cS Ms es) k i e)(Y:aK (RcIn F) Z (itR Ms (cS Ms es) i).2)(h:n<=Z.length)(x:Ev):∃b:Bool,((n:Int)<=0->b=true)/\(0<(n:Int)->∃v q,atI Z ((n:Int)-1)=some v/\RcIn F v q/\HT.lexLt q.h.key [x.t,x.r,-1,(es.length:Int)]=b)/\(b=true↔tY (itR Ms (cS Ms es) n).1 (atP x es.length)):=by
 have l:=aZ Y;have hM:=OM mo s (n:=n) (by omega)
 cases n with
 |zero=>exact{true,fun _=>rfl,fun z=>absurd z (by omega),fun _=>ON hM,fun _=>rfl}
 |succ n=>
  obtain⟨q,h1,h2,J⟩:=Li mo hM;have U:(itR Ms (cS Ms es) i).2[n]?=some q:=by
   obtain⟨I,O⟩:=IS mo s.1;obtain⟨u,hu⟩:=Ec Ms (cS Ms es) (n+1) (i-(n+1));rw[show n+1+(i-(n+1))=i by omega]at hu;rw[hu,eQ (by rw[hM.l (n+1) (ax _)];omega)];exact h1
  obtain⟨v,g1,W⟩:=jx Y U;refine{HT.lexLt q.h.key [x.t,x.r,-1,(es.length:Int)],fun z=>absurd z (by omega),fun _=>{v,q,?_,W,rfl},fun z y hy=>?_,fun z=>z q.h h2}
  ·rw[show (((n+1:Nat):Int)-1)=(n:Int) by omega];exact je g1
  ·rw[h2]at hy
   cases hy;exact z
end My
namespace L2
open PySem PySem.Spec PyProof.Rows
theorem passO{X:Cx}:lH (CXo X.prog X.w) X E0:=fun pins σ H s e s' I h=>by
 obtain⟨Z,C,H',B,_,z,_⟩:=h;exact z.elim
section
variable{X:Cx}
theorem zI:jT X (.builtin "isinstance") (fun xs H Q=>(∃x n t b,xs=[x,.ty n]/\tj X.K H x t/\bV X.K t (.type n)=some b/\Q (.bl b) H)\/∃a C Z c b,xs=[.ref a,Z]/\RelV Z c/\(∀u,RelV Z u->u=c)/\H a=some (XO a C)/\lQ X.K C/\bV X.K (.ref C) c=some b/\Q (.bl b) H):=by
 intro pins s σ H xs us Q I r h
 rcases h with h|h
 ·exact ju pins s σ H xs us Q I r h
 ·exact eV pins s σ H xs us Q I r h
end
end L2
namespace My
open PySem L2
theorem Ei{n:Int}{ns:List Int}:inV (.int n) (ns.map V.int)=decide (n∈ns):=by
 unfold inV;rw[List.any_map]
 induction ns with
 |nil=>rfl
 |cons a ns Y=>
  rw[kR,Y];show (eqV (.int a) (.int n)||_)=_
  by_cases c:a=n
  ·subst c;simp[eqV]
  ·have Z:¬n=a:=fun z=>c z.symm;simp[eqV,c,Z]
theorem yG(ns:List Int):(ns.map V.int).all tE=true:=by
 rw[List.all_map];exact List.all_eq_true.mpr fun x _=>rfl
theorem sorted_ints{Y Z:List Int}(h1:Y.Pairwise (·<=·))(h2:Z.Pairwise (·<=·))(h:Y.Perm Z):Y=Z:=List.Perm.eq_of_pairwise (fun _ _ _ _ a b=>Int.le_antisymm a b) h1 h2 h
theorem Cf{G G':Hp}{p:aa}(pu:dE G p):bh (Hid {[],G} G') (Wp p G'):=fun a o e=>by
 refine ji (cW _ _ e) fun z=>?_;subst z;obtain⟨x,y,h⟩:=pu;exact gO e (.inr {_,h,fun xs z=>by cases z})
def AkT(CL:aa)(Ms:List MD)(es:List Ev)(n:Nat)(x:Ev)(Y:Int)(H G:Hp)(v:V):Prop:=(∃W,v=.ref W/\G W=some (XO W CL)/\¬tY (itR Ms (cS Ms es) n).1 (atP x es.length))\/∃(t rl:aa) (en:V) (Z:List V) (i:Nat) (e:End),v=.ref t/\tY (itR Ms (cS Ms es) n).1 (atP x es.length)/\Mrk Ms es n (itR Ms (cS Ms es) n).1/\jd Ms (wit (atP x es.length) (itR Ms (cS Ms es) n).1) Y i e/\Hid {[],H} G t=some (.tup [.ref rl,en])/\Hid {[],H} G rl=some (.lst Z)/\aK (RcIn (Hid {[],H} G)) Z (itR Ms (wit (atP x es.length) (itR Ms (cS Ms es) n).1) i).2/\lA (Hid {[],H} G) en e
theorem OQ{CK CC CM CS CN CL k m sl kd:aa}{Ms:List MD}{es:List Ev}{ev Z:Int}{n:Nat}{kvs:List (Key×V)}{U:V}{x:Ev}{H:Hp}{Q:VK}{E:XK}(hk:zH CK CC CM CS Ms es H k m sl kd ev kvs)(hs:mI H U x)(hx:qR Ms.length x)(hm:Z<=1000)(c:(n:Int)∈kK kvs)(q:∀v G,bh H G->AkT CL Ms es n x Z H G v->Q v G):OJ CK CC CM CS CN CL [.ref k,.int n,U,.int Z] H Q E:=by
 refine{Ms,es,k,m,sl,kd,ev,n,Z,kvs,U,x,rfl,hk,hs,hx,hm,(fun z=>absurd c z),?_,?_}
 ·intro nn r G a1 a2 a3 a4 a5 J W;obtain rfl:nn=n:=by omega
  have Y:=a3.e;subst Y;exact q _ _ (a5.trans (aE W _)) (.inl ⟨J,rfl,aj,a4⟩)
 ·intro G t rl en rv nn j r e a1 a2 a3 hM I a5 ht hr D O;obtain rfl:nn=n:=by omega
  have Y:=hM.e;subst Y;exact q _ _ a5 (.inr ⟨t,rl,en,rv,j,e,rfl,a3,hM,I,ht,hr,D,O⟩)
theorem A0{t:L2.TT}{a b:TS}{D:nv}{σ:St}{H:Hp}(R:Hp->Prop)(k:∀H',R H'->D.nx σ H')(h:(∀H',R H'->D.nx σ H')->Jw t a b D σ H):Jw t a b D σ H:=h k
theorem zJ{n c:Int}{b:Bool}{x:Ev}{Z:List V}{F Y:Hp}(s:bh F Y)(d:0<n->∃v q,atI Z (n-1)=some v/\RcIn F v q/\HT.lexLt q.h.key [x.t,x.r,-1,c]=b):0<n->∃v q,atI Z (n-1)=some v/\RcIn Y v q/\HT.lexLt q.h.key [x.t,x.r,-1,c]=b:=fun z=>by
 obtain⟨v,q,h1,h2,W⟩:=d z;exact{v,q,h1,h2.same s,W}
section
variable{P:aM}{w:bO}{K:af}{mg:Str->Option ae}{base:cC}{f fP fD fW fMs fSs fSg fNr fMI fKi fKr fKm fKg fAk fKd fDu fRt fPl CK CC CM CS CB CN CL:aa}{fd fdP fdD fdW fdMs fdSs fdSg fdNr fdMI fdKi fdKr fdKm fdKg fdAk fdKd fdDu fdRt fdPl:bX}
seal PS PSs PE PA PT PW PI PG PGs PC
abbrev nL:List Str:=["_law_script","_law_purse_here","_law_machines_here","_law_signs_here","_law_model","_law_keeper","_law_records","_law_marks","_law_number","_law_sign_here","_law_most","_law_told","_law_due_here","_law_other","_law_second","_law_kept"]
abbrev pL:List Str:=["_law_script"]
theorem scL:bN nL pL (aL Hs):={}
inductive Jh(K:af)(vs:List V)(H:Hp)(Q:VK)(_e:XK):Prop where
 |mk(a:aa)(ns:List Int)(_:vs=[.ref a])(_:SqL K H a (ns.map V.int))(_:ns.length<=63)(_:(∀x∈ns,ff x<=1048576))(_:∀H',Q (.bl true) H'):Jh K vs H Q _e
def Ej(K:af):Sp:=fun vs H Q Z=>Jh K vs H Q Z
theorem OR(D:Df K mg "law" Hs pL f fd)(DP:Df K mg "_law_purse" mY ["_law_script"] fP fdP)(GP:bL P w K mg base CX0 2 fP fdP ["_law_script"] (DV K))(DD:Df K mg "_law_draw" eC pD fD fdD)(BW:Df K mg "_law_machines" ia pMs fMs fdMs)(nf:bL P w K mg base CX0 14 fMs fdMs pMs spMs)(DR:Df K mg "_law_signs" kE pSs fSs fdSs)(mz:bL P w K mg base CX0 4 fSs fdSs pSs spSs)(Lk:Df K mg "_law_near" pC pNr fNr fdNr)(wP:bL P w K mg base CX0 4 fNr fdNr pNr spNr)
  (rm:Mk K CM fMI) (nh:bL P w K mg base CX0 31 fMI fdMI ["self","machines"] (NR CM 29)) (pc:Binds K fdMI ["self","machines"] [])
  (rx:Mk K CK fKi) (rz:bL P w K mg base CX0 33 fKi fdKi pKi (OG CK CM)) (oT:Binds K fdKi pKi []) (MR:Mt K CK "run" "Keeper.run" jI pKr fKr fdKr) (ow:bL P w K mg base CX0 40 fKr fdKr pKr (spKr CK CC CM CS CB)) (If:Mt K CK "marks" "Keeper.marks" iH pKm fKm fdKm) (MS:mg "sorted"=none) (MG:Mt K CK "go_on" "Keeper.go_on" iI pKg fKg fdKg) (GG:bL P w K mg base (CXo P w) 40 fKg fdKg pKg (spKg CK CC CM CS CN))
  (O:Df K mg "_law_asked" mZ pAk fAk fdAk) (Fa:bL P w K mg base CX0 41 fAk fdAk pAk (OJ CK CC CM CS CN CL)) (LE:Df K mg "_law_kind" pB pKd fKd fdKd) (si:bL P w K mg base CX0 1 fKd fdKd pKd (spKd CN CL)) (KX:Df K mg "_law_due" oE pDu fDu fdDu) (uG:bL P w K mg base CX0 1 fDu fdDu pDu spDu) (Lt:Df K mg "_law_right" m5 pRt fRt fdRt) (sf:bL P w K mg base CX0 41 fRt fdRt pRt (spRt CM)) (Ci:Df K mg "plain" tI ["model","signs","most"] fPl fdPl) (rf:bL P w K mg base CX0 40 fPl fdPl ["model","signs","most"] (ID CM CS CB)) (TM:MdT K mg CM CS) (TK:KeT K mg CK) (TB:BkT K mg CB) (xL:lQ K CL) (tL:bV K (.ref CL) (.type "tuple")=some false) (B:Bl mg):bL P w K mg base CX0 42 f fd pL (Ej K):=by
 have GD:bL P w K mg base CX0 1 fD fdD pD jL:=jM DD;have sK:bL P w K mg base CX0 1 fKm fdKm pKm (spKm CK):=ok_km If.F TK MS;refine D.F.ok scL (fun vs H Q E h=>?_) (fun lz A outer s H vs Q E hr h=>?_)
 ·obtain⟨a,ns,rfl,_⟩:=h;rfl
 obtain⟨sa,ns,rfl,rr,mm,mq,fin⟩:=h;have zn:=BF hr;have r1:cZ 1 _:=hr.mono (by decide);have r2:cZ 2 _:=hr.mono (by decide);have r4:cZ 4 _:=hr.mono (by decide);have no:cZ 14 _:=hr.mono (by decide);have pa:cZ 32 _:=hr.mono (by decide);have oD:cZ 34 _:=hr.mono (by decide);have DB:cZ 40 _:=hr.mono (by decide);have Ip:cZ 41 _:=hr;refine⟨_,ah (bJ (i:=1) scL.nd rfl (Or.inl rfl) (aI GP r2 (by rfl) DP.m DP.F.kp DP.b .nil bC (aR (pv 0) ag)))
  (ah (bJ (i:=2) scL.nd rfl (Or.inl rfl) (aI nf no (by rfl) BW.m BW.F.kp BW.b .nil bC (aR (pv 1) ag)))
  (ah (bJ (i:=3) scL.nd rfl (Or.inl rfl) (aI mz r4 (by rfl) DR.m DR.F.kp DR.b .nil bC (aR (pv 1) (iz (cb (eu K (by rfl)) (by rfl) B.len cu (aR (pv 2) ag)) ag))))
  (ah (bJ (i:=4) scL.nd rfl (Or.inl rfl) (j8 rm nh pa (by rfl) TM.mM pc .nil bC (aR (pv 2) ag)))
  (ah (bJ (i:=5) scL.nd rfl (Or.inl rfl) (j8 rx rz oD (by rfl) TK.m oT .nil bC (aR (pv 4) (aR (pv 3) (oR (cR gK av (aI GD r1 (by rfl) DD.m DD.F.kp DD.b .nil bC (aR (pv 1) (dS av ag)))) ag)))))
  (ah (bJ (i:=6) scL.nd rfl (Or.inl rfl) (d7 K (by rfl) (gj (pv 5) TK.cl MR.m ow DB MR.b .nil bC (iz (aI GD r1 (by rfl) DD.m DD.F.kp DD.b .nil bC (aR (pv 1) (dS av ag))) ag)) (by rfl)))
  (ah (bJ (i:=7) scL.nd rfl (Or.inl rfl) (jb (pv 5) TK.cl If.m sK r1 If.b .nil bC))
  (ah (jX dC rfl (jr (by rfl) B.range (oR (cR gK (cb (eu K (by rfl)) (by rfl) B.len cu (aR (pv 6) ag)) av) ag)) (eA (i:=8) scL.nd rfl (Or.inl rfl)) (ah (bJ (i:=9) scL.nd rfl (Or.inl rfl) (aI wP r4 (by rfl) Lk.m Lk.F.kp Lk.b .nil bC (aR (pv 1) (iz (cb (eu K (by rfl)) (by rfl) B.len cu (aR (pv 2) ag)) (aR (pv 6) ag)))))
  (ah (bJ (i:=10) scL.nd rfl (Or.inl rfl) (aI GD r1 (by rfl) DD.m DD.F.kp DD.b .nil bC (aR (pv 1) (dS av ag))))
  (ah (bJ (i:=11) scL.nd rfl (Or.inl rfl) (aI Fa Ip (by rfl) O.m O.F.kp O.b .nil bC (aR (pv 5) (aR (pv 8) (aR (pv 9) (aR (pv 10) ag))))))
  (ah (bJ (i:=12) scL.nd rfl (Or.inl rfl) bS)
  (ah (cH (bQ EC (pv 8) (pv 7) (by rfl)) (aA (bJ (i:=12) scL.nd rfl (Or.inl rfl) (aI uG r1 (by rfl) KX.m KX.F.kp KX.b .nil bC (aR (pv 6) (iz (cb (eu K (by rfl)) (by rfl) B.len cu (aR (pv 3) ag)) (aR (pv 8) (aR (pv 9) ag))))))) bP)
  (ah (cH (bQ Cq (aI si r1 (by rfl) LE.m LE.F.kp LE.b .nil bC (aR (pv 11) ag)) (pv 12) (cq _)) (aA (bE oa)) bP)
  (aA (cH (bQ fc (pv 12) bS (cq _)) (ah (cH (ny (gJ (aI sf Ip (by rfl) Lt.m Lt.F.kp Lt.b .nil bC (aR (pv 4) (aR (pv 3) (aR (pv 9) (aR (pv 8) (aR (pv 10) (aR (pv 11) ag))))))))) (aA (bE oa)) bP)
  (ah (bJ (i:=13) scL.nd rfl (Or.inl rfl) (aI wP r4 (by rfl) Lk.m Lk.F.kp Lk.b .nil bC (aR (pv 1) (iz (cb (eu K (by rfl)) (by rfl) B.len cu (aR (pv 2) ag)) (aR (pv 6) ag)))))
  (ah (bJ (i:=14) scL.nd rfl (Or.inl rfl) (aI Fa Ip (by rfl) O.m O.F.kp O.b .nil bC (aR (pv 5) (aR (pv 8) (aR (pv 13) (aR (pv 10) ag))))))
  (ah (cH (bQ Cq (aI si r1 (by rfl) LE.m LE.F.kp LE.b .nil bC (aR (pv 14) ag)) (aI uG r1 (by rfl) KX.m KX.F.kp KX.b .nil bC (aR (pv 6) (iz (cb (eu K (by rfl)) (by rfl) B.len cu (aR (pv 3) ag)) (aR (pv 8) (aR (pv 13) ag))))) (cq _)) (aA (bE oa)) bP)
  (ah (cH ((jA (gJ (cb zI (by rfl) B.isi fH (aR (pv 14) (aR (kY (v:=.ty "tuple") (by rfl) B.tuple boot_tuple rfl) ag)))) (iM (ny (gJ (aI sf Ip (by rfl) Lt.m Lt.F.kp Lt.b .nil bC (aR (pv 4) (aR (pv 3) (aR (pv 13) (aR (pv 8) (aR (pv 10) (aR (pv 14) ag))))))))))).pt) (aA (bE oa)) bP)
  (ah (bJ (i:=15) scL.nd rfl (Or.inl rfl) (aI rf DB (by rfl) Ci.m Ci.F.kp Ci.b .nil bC (aR (pv 4) (aR (pv 3) (oR (cR gK (pv 8) (pv 10)) ag)))))
  (ah (cH (bQ (GY zn) (gj (pv 5) TK.cl MG.m GG DB MG.b .nil passO (aR (pv 8) (aR (pv 10) ag))) (dZ (pI (om tD (d7 K (by rfl) (pv 15) (by rfl)) (rh (pv 8)) rg) (aq (d7 K (by rfl) (pv 15) (by rfl)) ag))) (cq _)) (aA (bE oa)) bP)
  (aA (cH (bQ (GY zn) (aI Fa Ip (by rfl) O.m O.F.kp O.b .nil bC (aR (pv 5) (aR (pv 8) (aR (pv 9) (aR (pv 10) ag))))) (pv 11) (cq _)) (aA (bE oa)) bP))))))))) bP)))))))))
  (aA (bE (oW (BH zn) (jb (pv 5) TK.cl If.m sK r1 If.b .nil bC) (pv 7) (cq _))))))))))),?_⟩
 have big:=d9
 -- the purse, the machines, the signs
 refine bU (cO {_,rfl,sa,ns,rfl,rr,mm,mq,fun p H1 np wg s1=>bK ?_});dsimp only;refine bU (cO {_,rfl,p,rfl,wg,fun ml xs Ms H2 DC At m0 m6 zr FI b2=>bK ?_});dsimp only;have lx:=aZ At;refine bU (cO {_,rfl,_,rfl,ml,_,rfl,.inl (SqL.of DC),p,Ms.length,(by show [V.ref p,V.int (xs.length:Int)]=_;rw[lx]),FI,m0,by omega,fun ol mv es H3 yr sM lj my tp GQ b3=>bK ?_});dsimp only;have I:=b3 _ _ DC zr;have Ge:=Paired.mono (fun v M z=>MIn.but wg FI b3 z) At;clear At DC b2 FI b3 s1
 -- the bA
 refine bU (cO (uI {_,rfl,fun m KK hm tz vo=>?_}));have sA:bh H3 (upd (upd H3 KK (.own m)) m (.ins CM KK [])):=fun b o e=>by
  rw[aN (aw e hm),aN (aw e tz)];exact e
 have Mm:aK (MIn Ms.length H1 (upd (upd H3 KK (.own m)) m (.ins CM KK []))) xs Ms:=Paired.mono (fun v M z=>by
  obtain⟨t,e,y⟩:=z;exact{t,e,y.same sA}) Ge
 refine{m,KK,.ref ml,rfl,aj,Ea (sA _ _ I) Mm (by omega),fun v' G5 s5 al=>{rfl,bK ?_}};obtain⟨pi,rfl,vq⟩:=KS (sA _ _ I) Mm al;have vr:=Alike.tree (Ea (sA _ _ I) Mm (by omega)) al;have LG:bh H3 (upd G5 m (.ins CM KK (cJ "machines" (.ref pi) []))):=tQ (sA.trans s5) hm _;dsimp only
 -- the keeper
 refine bU (cO {_,rfl,_,rfl,_,rfl,p,6,rfl,GQ.same LG,by decide,by decide,fun ev G6 lf kB GT b6=>{_,_,rfl,rfl,fun k Ix hk Gc _=>?_}});have pn:H3 p≠none:=fun z=>by
  obtain⟨x,y,e⟩:=GQ;rw[z]at e
  cases e
 have M6:MoT CM Ms (Wp p G6) m:=(mo_h hm vo pn vq vr b6).same (Cf GQ);have R6:Rn CM Ms es (Wp p G6) m ol:=⟨M6.at,by omega,⟨mv,ji (b6 _ _ (LG _ _ yr) tp) tp,Paired.mono (fun v e z=>by
  obtain⟨t',e',h⟩:=z.same LG;have h':=d8.but (GQ.same LG) b6 _ _ h (n6 _);refine{t',e',ji h' fun z=>?_};obtain⟨x,y,h2⟩:=GT;rw[z,h2]at h'
  cases h') sM⟩,by omega,my⟩
 have Gx:Wp p G6 ml=some (.lst xs):=ji (b6 _ _ (LG _ _ I) zr) zr;clear vq vr al s5 Mm sA hm tz vo Ge I LG b6 yr sM pn;refine Lj M6 R6 (by omega) (by omega) hk Gc fun G7 m' Hd v s7 DE R7=>{rfl,bK ?_};dsimp only;have Fr:p≠k:=(sQ GT hk).symm
 -- its run
 refine bU (cO {_,rfl,k,Ix,_,rfl,DE,yC _ _ _ _ (by decide +kernel),_,rfl,p,20,rfl,GT.same s7,by decide,by decide,fun mr G8 pw md DM b8=>?_});refine rW ?_;have ip:p∈({[k],G6}:Ex):=.inr (Jg GT);have R8:Rn CM Ms es (Vw [p,k] G8) m' Hd:=R7.same fun a o e=>by
  have na:=gO e;have n1:a≠p:=fun z=>na (by rw[z];exact ip);have n2:a≠k:=fun z=>na (by rw[z];exact .inl (aD.mpr rfl));exact Eh (fun z=>by
   rcases ar.mp z with z|z
   ·exact n1 z
   ·exact n2 (aD.mp z)) (b8 _ _ (cW _ _ e) n1)
 refine{Ms,es,k,Ix,m',Hd,v,1+ev,mr,rfl,b8 _ _ DE Fr.symm,R8.same (MP (by simp)),by omega,by omega,by omega,by omega,fun G9 b pr rl kd en sv W kvs i0 e0 Ch va BT _ ra b9 qb qr lr GE ww kp=>?_};refine{b,CB,pr,_,_,rfl,qb,TB.cl,TB.nR,Ij _ _ _,bK ?_};dsimp only;have mo:=M6.at.ok;have mf:=yA mo Ch pw;have mc:=aZ BT;have DL:dE G9 p:=by
  obtain⟨x,y,e⟩:=DM;exact{x,y,b9 _ _ e Fr}
 have EQ:bh (Wp p G6) (Wp p G9):=fun a o e=>by
  obtain⟨n,h⟩:=rX e;exact ji (b9 _ _ (b8 _ _ (s7 _ _ h) n) (aw h hk)) n
 have hw:=Cf (G':=G9) DM;have R9:=R6.same EQ;have Gg:=EQ _ _ Gx;have GB:=hw _ _ va;have ur:=Paired.mono (fun _ _ z=>RcIn.same hw z) BT;have K9:zH CK CC CM CS Ms es (Wp p G9) k m' Hd kd (1+ev) kvs:={{Ix,ji GE Fr.symm},R8.same ((OP b9 (by simp)).trans (MP (by simp))),hw _ _ ww,kp.same hw};clear M6 R6 Gx hw va BT R8 R7 DE s7 hk Gc b8 b9 EQ DM GT ip qb kp ww
 -- its marks
 have keys:=K9.kk.keys;have wi:(kK kvs).length<64:=by
  unfold kK;rw[au];have:=K9.kk.few;omega
 refine bU (cO {_,rfl,k,Ix,_,rfl,GE,yC _ _ _ _ (by decide +kernel),k,kd,Ix,_,_,_,kvs,kK kvs,rfl,GE,(rX K9.dk).2,keys,wi,fun l GF hl pm py=>bK ?_});dsimp only;have sl:=aE hl (.lst (GF.map V.int));have mE:l≠p:=sQ DL hl;have Mi:=ji (kS hl (.lst (GF.map V.int))) mE;have J:=K9.same (kj sl);have LT:=R9.same (kj sl);have U:=kj sl _ _ Gg;have Z:=kj sl _ _ GB;have Y:=Paired.mono (fun _ _ z=>RcIn.same (kj (p:=p) sl) z) ur;have GU:=DL.same sl;have GW:=sl _ _ qr;revert Mi J LT GU U Z Y GW;generalize upd G9 l (.lst (GF.map V.int))=G11;intro Mi J LT U Z Y GU GW;clear K9 R9 DL sl hl GE Gg GB ur qr;have mem:∀{n:Int},n∈GF↔n∈kK kvs:=pm.mem_iff;refine bU {_,rfl,rl,W,rfl,.inl (SqL.of GW),_,_,rfl,rfl,(W.length:Int)+2,rfl,by omega,by omega,?_};refine qZ (n:=W.length+2) (fun i σ G=>∃u8 u9 DN Cl CP CY DA Db:Option V,σ=[some (.ref sa),some (.ref p),some (.ref ml),some (.ref ol),some (.ref m),some (.ref k),some (.ref rl),some (.ref l),u8,u9,DN,Cl,CP,CY,DA,Db]/\dE G p/\bh (Wp p G11) (Wp p G)) {_,_,_,_,_,_,_,_,rfl,GU,bh.refl _} ?_ ?_
 ·rintro i σ G hi ⟨u8,u9,DN,Cl,CP,CY,DA,Db,rfl,AT,sG⟩;refine bK ?_;dsimp only;have e0:(0:Int)+(i:Int)=(i:Int):=Int.zero_add _;rw[e0];have MF:∀{G':Hp},bh (Wp p G11) (Wp p G')->bh (Wp p G11) G':=fun s=>s.trans (pK _ _);refine bU (cO {_,rfl,_,rfl,ml,xs,rfl,.inl (SqL.of (MF sG _ _ U)),_,rfl,p,rl,Ms.length,W,_,(by show [V.ref p,V.int (xs.length:Int),V.ref rl]=_;rw[lx]),AT,m0,by omega,sG _ _ Z,Paired.mono (fun _ _ z=>RcIn.same sG z) Y,by omega,fun sv x Ga hs hx BS ba=>bK ?_});dsimp only;have ui:=sG.trans ba.wp;refine bU (cO {_,rfl,p,10,rfl,BS,by decide,by decide,fun mt Gb DO ly Id bb=>bK ?_});dsimp only;have IO:=ui.trans bb.wp;have GS:mI Gb sv x:=by
   obtain⟨ts,rfl,MC⟩:=hs;exact⟨ts,rfl,bb _ _ MC fun z=>by
    obtain⟨a,b,e⟩:=BS;rw[z,e]at MC
    cases MC⟩
  have Kb:=J.same (MF IO);have tn:=MF IO _ _ Mi;clear hs ba bb ui BS AT sG
  by_cases c:(i:Int)∈kK kvs
  ·have ss:i<=W.length:=ks_le ra c;obtain⟨b,d1,d2,d3⟩:=MT mo Ch Y ss x;obtain⟨DU,DF,rb⟩:=LT.sg;have DW:=aZ rb;refine bU (cO {_,rfl,_,rfl,_,rfl,_,rfl,?_});refine rW ?_;refine OQ (n:=i) Kb GS hx (by omega) c fun v Gt sT aT=>bK ?_;dsimp only;refine bU (cO (bK ?_));dsimp only;refine bU (fh {_,rfl,_,rfl,l,_,rfl,.inl (SqL.of (sT _ _ tn)),rfl,yG _,_,rfl,?_});rw[Ei,decide_eq_true (mem.mpr c)];refine gG ?_;have sB:bh (Wp p G11) Gt:=(MF IO).trans sT;refine cO {_,rfl,_,rfl,ol,_,rfl,.inl (SqL.of (sB _ _ DF)),_,rfl,_,rfl,rl,sv,x,W,(DU.length:Int),i,b,rfl,GS.same sT,sB _ _ Z,d1,by rw[DW];exact zJ sB d2,fun Gd sd=>bK ?_};dsimp only
   rcases aT with⟨ea,rfl,g,np⟩|⟨t,wv,ti,sF,j,e,rfl,GR,hM,hS,ht,hr,pR,hE⟩
   ·have bf:b=false:=by
     cases b with
     |false=>rfl
     |true=>exact absurd (d3.mp rfl) np
    rw[bf];refine bU (fh {_,rfl,ea,rfl,.inr (.inr {sd _ _ g,fun Gn sN=>{_,rfl,rfl,_,rfl,eE ?_}})});dsimp only[jq];refine fh {_,rfl,rfl,_,rfl,?_};rw[decide_eq_false (by decide)];refine eE ?_;exact{_,_,_,_,_,_,_,_,rfl,(Id.same sT).same (sd.trans sN),IO.trans (kj (sT.trans (sd.trans sN)))}
   ·have bt:b=true:=d3.mpr GR;rw[bt];have hd:bh (Hid {[],Gb} Gt) Gd:=cW.trans sd;refine bU (fh {_,rfl,t,rfl,.inl {_,hd _ _ ht,{_,rfl,rfl,_,rfl,eE ?_}}});dsimp only[jq];refine fh {_,rfl,rfl,_,rfl,?_};refine gG ?_;have ph:=sB.trans sd;refine bU (fh {_,rfl,_,rfl,_,rfl,_,rfl,_,rfl,_,rfl,Ms,es,x,m,ol,t,wv,sv,ti,sF,i,j,mt,_,e,rfl,LT.same ph,by omega,GS.same (sT.trans sd),hx,by omega,DO,by omega,hM,GR,hS,hd _ _ ht,hd _ _ hr,Paired.mono (fun _ _ z=>RcIn.same hd z) pR,hE.same hd,fun Gr sr=>{_,rfl,eE ?_}});dsimp only[jq];have GC:=sT.trans (sd.trans sr);have GL:bh (Wp p G11) (Wp p Gr):=IO.trans (kj GC);have mW:bh (Hid {[],Gb} Gt) (Wp p Gr):=(Cf Id).trans (kj (sd.trans sr));refine bU (cO {_,rfl,_,rfl,ml,xs,rfl,.inl (SqL.of (MF GL _ _ U)),_,rfl,p,rl,Ms.length,W,_,(by show [V.ref p,V.int (xs.length:Int),V.ref rl]=_;rw[lx]),Id.same GC,m0,by omega,GL _ _ Z,Paired.mono (fun _ _ z=>RcIn.same GL z) Y,by omega,fun GO x2 Go sD ws ro bo=>bK ?_});dsimp only;have GI:=GL.trans bo.wp;have px:=(mW.trans bo.wp);have pq:mI Go sv x:=by
     obtain⟨ts,rfl,MC⟩:=GS.same GC;exact⟨ts,rfl,bo _ _ MC fun z=>by
      obtain⟨a,b,e⟩:=Id.same GC;rw[z,e]at MC
      cases MC⟩
    obtain⟨b',xv,vl,tt⟩:=MT mo Ch Y ss x2;refine bU (cO {_,rfl,_,rfl,_,rfl,_,rfl,?_});refine rW ?_;refine OQ (n:=i) (J.same (MF GI)) sD ws (by omega) c fun v2 Gs s2 wS=>bK ?_;dsimp only;have ME:=(MF GI).trans s2;have DS:∀{F:Hp},bh Gs F->mI F GO x2:=fun s=>(sD.same s2).same s;refine bU (A0 (fun G=>bh Gs G) ?_ ?_)
    rotate_left
    ·intro jn
     rcases wS with⟨ea,rfl,g,np⟩|⟨t2,vb,sZ,sS,j2,e2,rfl,MB,_,wf,GM,wE,tm,xz⟩
     ·have bf:b'=false:=by
       cases b' with
       |false=>rfl
       |true=>exact absurd (tt.mp rfl) np
      refine{_,rfl,ea,rfl,.inr (.inr {g,fun Gn sN=>{_,rfl,_,rfl,ol,_,rfl,.inl (SqL.of ((ME.trans sN) _ _ DF)),_,rfl,_,rfl,rl,GO,x2,W,(DU.length:Int),i,b',rfl,DS sN,(ME.trans sN) _ _ Z,xv,by rw[DW];exact zJ (ME.trans sN) vl,fun Gd sd=>?_}})};rw[bf];exact{rfl,_,rfl,eE (jn _ (sN.trans sd))}
     ·have bt:b'=true:=tt.mpr MB;refine{_,rfl,t2,rfl,.inl {_,cW _ _ GM,{_,rfl,_,rfl,ol,_,rfl,.inl (SqL.of (ME _ _ DF)),_,rfl,_,rfl,rl,GO,x2,W,(DU.length:Int),i,b',rfl,DS (bh.refl _),ME _ _ Z,xv,by rw[DW];exact zJ ME vl,fun Gd sd=>?_}}};rw[bt];exact{rfl,_,rfl,eE (jn _ sd)}
    intro Gk sk;dsimp only;refine bU (A0 (fun G=>bh Gs G) ?_ ?_)
    rotate_left
    ·intro jn
     rcases wS with⟨ea,rfl,g,np⟩|⟨t2,vb,sZ,sS,j2,e2,rfl,MB,_,wf,GM,wE,tm,xz⟩
     ·refine{_,rfl,.inr {ea,CL,_,_,false,rfl,(rfl:RelV (.ty "tuple") (Value.type "tuple")),(fun u z=>z),sk _ _ g,xL,tL,_,rfl,eE ?_}};exact eE (jn _ sk)
     ·have h2:=(cW (ex:={[],Go})).trans sk;refine{_,rfl,.inl {_,"tuple",_,true,rfl,.tup (h2 _ _ GM),rfl,_,rfl,gG ?_}};refine{_,rfl,_,rfl,_,rfl,_,rfl,_,rfl,_,rfl,Ms,es,x2,m,ol,t2,vb,GO,sZ,sS,i,j2,mt,_,e2,rfl,LT.same (ME.trans sk),by omega,DS sk,ws,by omega,DO,by omega,hM,MB,wf,h2 _ _ GM,h2 _ _ wE,Paired.mono (fun _ _ z=>RcIn.same h2 z) tm,xz.same h2,fun lp ri=>{_,rfl,eE (jn _ (sk.trans ri))}}
    clear sk;intro Gk sk;dsimp only
    -- as ever
    have ut:=ME.trans sk;have Rk:=LT.same ut;obtain⟨wT,ub,vf⟩:=Rk.sg;refine bU (cO {_,rfl,_,rfl,_,rfl,_,rfl,_,_,rfl,rfl,?_});refine rW ?_;refine{Ms,m,ol,wT,es,(i:Int)+mt,rfl,Rk.mo,Rk.lm,ub,vf,Rk.le,Rk.ev,by omega,fun Gp b2 i2 e2 sp pp bk=>bK ?_};dsimp only;obtain⟨GA,nc,lv,CU,Is,mb,g1,g2,g3,g4,_⟩:=bk.ex;have wh:=ut.trans sp;obtain⟨yx,pk⟩:=(J.same wh).ob;refine bU (fh {_,rfl,k,yx,_,rfl,pk,yC _ _ _ _ (by decide +kernel),_,rfl,_,rfl,Ms,es,k,m',Hd,kd,1+ev,i,mt,kvs,rfl,J.same wh,by omega,(fun z=>absurd c z),fun Gy t5 lw kI la n5 j5 r5 e5 _ kG vu mx sh pe qt lM oc pM=>?_});obtain rfl:n5=i:=by omega
    obtain⟨St,dr⟩:=vu.on mx DO;obtain⟨rfl,rfl⟩:=pp.same St;have l3:=aZ g3;have tq:n5<=Is.length:=by
     rw[l3,nj];show n5<=((itR Ms (cS Ms es) n5).2++_).length;rw[ay,vu.l n5 (ax _)];omega
    have p3:=Je n5 g3;rw[dr]at p3;have hk:=(cW (ex:={[],Gk}) (G:=Gp)).trans sh;refine{_,rfl,b2,CB,GA,_,_,rfl,hk _ _ g1,TB.cl,TB.nR,Ij _ _ _,_,rfl,_,rfl,nc,Is,rfl,SqL.of (hk _ _ g2),fun l4 we=>?_};rw[yF tq];have s4:=aE we (.lst (Is.drop n5));refine{_,rfl,b2,CB,GA,_,_,rfl,s4 _ _ (hk _ _ g1),TB.cl,TB.nE,bk_e _ _ _,lt2,fun t4 wm=>?_};have s5:=aE wm (.tup [.ref l4,CU]);have q4:=s5 _ _ (kS we (.lst (Is.drop n5)));have q5:=kS wm (.tup [.ref l4,CU]);have sq:=s4.trans s5;revert q4 q5 sq;generalize upd (upd Gy l4 (.lst (Is.drop n5))) t4 (.tup [.ref l4,CU])=Gq;intro q4 q5 sq;have sH:=hk.trans sq;refine{6,by decide,uP (sq _ _ pe) q5 (sq _ _ qt) q4 (Paired.mono (fun _ _ z=>z.same sq) oc) (Paired.mono (fun _ _ z=>z.same sH) p3) (pM.same sq) (g4.same sH),_,rfl,eE ?_};dsimp only[jq]
    -- asked once more
    have IN:bh Go Gq:=s2.trans (sk.trans (sp.trans (sh.trans sq)));refine fh {_,rfl,_,rfl,_,rfl,_,rfl,?_};refine rW ?_;refine OQ (n:=n5) (J.same ((MF GI).trans IN)) (pq.same IN) hx (by omega) c fun v6 Gv s6 nT=>?_
    rcases nT with⟨ea,rfl,g,np⟩|⟨t6,lc,ls,lk,j6,e6,rfl,mu,_,ry,ov,mn,rc,nz⟩
    ·exact absurd GR np
    obtain⟨rfl,rfl⟩:=ry.same hS;have hz:=(px.trans (pK _ _)).trans (IN.trans s6);refine{_,rfl,6,by decide,uP (cW _ _ ov) (hz _ _ ht) (cW _ _ mn) (hz _ _ hr) (Paired.mono (fun _ _ z=>RcIn.same cW z) rc) (Paired.mono (fun _ _ z=>RcIn.same hz z) pR) (nz.same cW) (hE.same hz),_,rfl,eE ?_};exact{_,_,_,_,_,_,_,_,rfl,ro.same (IN.trans s6),GI.trans (kj (IN.trans s6))}
  ·refine bU (cO {_,rfl,_,rfl,_,rfl,_,rfl,Ms,es,k,m',Hd,kd,1+ev,i,mt,kvs,sv,x,rfl,Kb,GS,hx,by omega,(fun _ ea g=>bK ?_),(fun nn r G z=>absurd z c),fun G t wv ti sF nn j r e z=>absurd z c});dsimp only;have sE:=aE g (XO ea CN);refine bU (cO (bK ?_));dsimp only;refine bU (fh {_,rfl,_,rfl,l,_,rfl,.inl (SqL.of (sE _ _ tn)),rfl,yG _,_,rfl,?_});rw[Ei,decide_eq_false (fun z=>c (mem.mp z))];refine eE ?_;dsimp only[jq];refine bU (fh {_,rfl,ea,rfl,.inr (.inl {aj,fun Gn sN=>{_,rfl,rfl,_,rfl,eE ?_}})});dsimp only[jq];refine fh {_,rfl,rfl,_,rfl,?_};rw[decide_eq_false (by decide)];refine eE ?_;exact{_,_,_,_,_,_,_,_,rfl,(Id.same sE).same sN,IO.trans (kj (sE.trans sN))}
 ·rintro σ G ⟨u8,u9,DN,Cl,CP,CY,DA,Db,rfl,AT,sG⟩;dsimp only;have Kf:=J.same (sG.trans (pK _ _));obtain⟨wn,qf⟩:=Kf.ob;refine eW {_,rfl,k,wn,_,rfl,qf,yC _ _ _ _ (by decide +kernel),k,kd,wn,_,_,_,kvs,kK kvs,rfl,qf,Kf.dk,keys,wi,fun l2 oe oi pb sx=>?_};have s2:=aE oi (.lst (oe.map V.int));have e:=sorted_ints sx py (pb.trans pm.symm);subst e;exact{_,rfl,1,by decide,AW (n:=0) aj (s2 _ _ (rX (sG _ _ Mi)).2),fin _}
end
def jN(CN CG W Y Z CL:aa):Flt->aa
 |.nought=>CN
 |.great=>CG
 |.full=>W
 |.dry=>Y
 |.span=>Z
 |.late=>CL
end My
namespace My
theorem rF{P:Flt->Prop}(a:P .nought)(b:P .great)(c:P .full)(d:P .dry)(e:P .span)(f:P .late):∀x,P x
 |.nought=>a
 |.great=>b
 |.full=>c
 |.dry=>d
 |.span=>e
 |.late=>f
end My
namespace My
open PySem L2
theorem rG{Z:Type}{n:Nat}{us:List Z}(h:us.length=n+1):∃a l,us=a::l/\l.length=n:=by
 cases us with
 |nil=>cases h
 |cons a l=>exact{a,l,rfl,Jq h}
theorem zK{Z:Type}{us:List Z}(h:us.length=1):∃a,us=[a]:=by
 obtain⟨a,l,rfl,h⟩:=rG h
 cases l with
 |nil=>exact⟨a,rfl⟩
 |cons b l=>cases h
theorem zL{Z:Type}{us:List Z}(h:us.length=2):∃a b,us=[a,b]:=by
 obtain⟨x,l,rfl,h'⟩:=rG h;obtain⟨a1,rfl⟩:=zK h';exact⟨x,a1,rfl⟩
theorem zM{Y:Type}{us:List Y}(h:us.length=3):∃a b c,us=[a,b,c]:=by
 obtain⟨x,l,rfl,h'⟩:=rG h;obtain⟨a1,Z,rfl⟩:=zL h';exact⟨x,a1,Z,rfl⟩
theorem zN{Y:Type}{us:List Y}(h:us.length=4):∃a b c d,us=[a,b,c,d]:=by
 obtain⟨x,l,rfl,h'⟩:=rG h;obtain⟨a1,Z,c1,rfl⟩:=zM h';exact⟨x,a1,Z,c1,rfl⟩
theorem zO{Y:Type}{us:List Y}(h:us.length=5):∃a b c d e,us=[a,b,c,d,e]:=by
 obtain⟨x,l,rfl,h'⟩:=rG h;obtain⟨a1,Z,c1,d1,rfl⟩:=zN h';exact⟨x,a1,Z,c1,d1,rfl⟩
theorem Ek{Y:Type}{us:List Y}(h:us.length=6):∃a b c d e f,us=[a,b,c,d,e,f]:=by
 obtain⟨x,l,rfl,h'⟩:=rG h;obtain⟨a1,Z,c1,d1,e1,rfl⟩:=zO h';exact⟨x,a1,Z,c1,d1,e1,rfl⟩
def Dn(K:af)(x:Str)(st:cX)(f:aa):Prop:=bR K bD x=some (some (.ref f))/\∃fd,Fun K x x st f fd
def Mn(K:af)(C:aa)(x q:Str)(st:cX)(f:aa):Prop:=(aU K (.ref C) x=some (some (.ref f))/\oX K (.ref f)=true)/\∃fd,Fun K x q st f fd
structure Cn(K:af)(C:aa):Prop where
 c:Cls K C
 m:vp K C=true
 k:gF K (.ref C)=true
theorem dn_i{K:af}{x:Str}{st:cX}{f:aa}{V:ae}{od Y:Option aa}{sl:Array (Option ae)}{kV U W Z ct:ae}(a:bR K bD x=some (some (.ref f)))(l:K.lookup f=some {V,od,.func (fq x x (kZ st) (jf st) (aL st) .none kV U W Y Z ct),sl})(c:jE K Z x=true)(k:gF K (.ref f)=true):Dn K x st f:={a,_,Gh l c k}
theorem mn_i{K:af}{x q:Str}{st:cX}{f C:aa}{V:ae}{od Y:Option aa}{sl:Array (Option ae)}{kV U W Z ct:ae}(a:aU K (.ref C) x=some (some (.ref f)))(i:oX K (.ref f)=true)(l:K.lookup f=some {V,od,.func (fq x q (kZ st) (jf st) (aL st) .none kV U W Y Z ct),sl})(c:jE K Z q=true)(k:gF K (.ref f)=true):Mn K C x q st f:={⟨a,i⟩,_,Gh l c k}
theorem dfx{K:af}{h:cC}{mg:Str->Option ae}{x:Str}{st:cX}{f:aa}(ps:List Str)(X:K.In h)(G:h.Ns bD mg)(a:Dn K x st f)(hb:∀(kV Y W:ae) (V:Option aa) (Z ct:ae) (us:List ae),us.length=ps.length->Bn (fq x x (kZ st) (jf st) (aL st) .none kV Y W V Z ct) {us,[]}=pure (ps.zip us):=by intro _ _ _ _ _ _ us hl;first|(obtain⟨a,rfl⟩:=zK hl;rfl)|(obtain⟨a,b,rfl⟩:=zL hl;rfl)|(obtain⟨a,b,c,rfl⟩:=zM hl;rfl)|(obtain⟨a,b,c,d,rfl⟩:=zN hl;rfl)|(obtain⟨a,b,c,d,e,rfl⟩:=zO hl;rfl)|(obtain⟨a,b,c,d,e,f,rfl⟩:=Ek hl;rfl)):∃fd,Df K mg x st ps f fd:=by
 obtain⟨a,fd,F⟩:=a;exact{fd,F,F.binds hb,cE X G a}
theorem mfx{K:af}{x q:Str}{st:cX}{f C:aa}(ps:List Str)(a:Mn K C x q st f)(hb:∀(kV Y W:ae) (V:Option aa) (Z ct:ae) (us:List ae),us.length=ps.length->Bn (fq x q (kZ st) (jf st) (aL st) .none kV Y W V Z ct) {us,[]}=pure (ps.zip us):=by intro _ _ _ _ _ _ us hl;first|(obtain⟨a,rfl⟩:=zK hl;rfl)|(obtain⟨a,b,rfl⟩:=zL hl;rfl)|(obtain⟨a,b,c,rfl⟩:=zM hl;rfl)|(obtain⟨a,b,c,d,rfl⟩:=zN hl;rfl)|(obtain⟨a,b,c,d,e,rfl⟩:=zO hl;rfl)|(obtain⟨a,b,c,d,e,f,rfl⟩:=Ek hl;rfl)):∃fd,Fun K x q st f fd/\Binds K fd ps []/\yQ K C x f:=by
 obtain⟨⟨a,i⟩,fd,F⟩:=a;exact{fd,F,F.binds hb,a,i,F.kp}
theorem law_b{K:af}{x q:Str}{st:cX}{f:aa}{fd:bX}{y:Str}(F:Fun K x q st f fd)(hb:∀(kV Z W:ae) (V:Option aa) (Y ct v:ae),Bn (fq x q (kZ st) (jf st) (aL st) .none kV Z W V Y ct) {[v],[]}=pure [(y,v)])(s:ao)(v:ae):uV s fd {[v],[]} [(y,v)]:=by
 obtain⟨O,od,kV,Z,W,V,Y,ct,U,rfl,_⟩:=F.ex;exact .of_eq (hb kV Z W V Y ct v)
theorem all_mk{l:vx}{w:bO}{K:af}{h:cC}{mg:Str->Option ae}{fa f1 f2 f3 f4 f5 f6 f7 f8 f9 ki iv eb hS hC hE eH ge hX er gr ft eF dn ek fe ea kt hI ip hF el dz io hN gM eh jn ih kw hf hx hG CM fG CS dL hz CD hD ez iF fx ii CB jl CC dG ed kc ei CK ke ej gd kv ew CN CG I J O CL CF g sx:aa}{rm ri ro rr si sd mE CTx nT CMd:aa}(X:K.In h)(G:h.Ns bD mg)(ka:mg "law"=some (.ref fa))
  (a1:Dn K "worth_of" lS f1) (a2:Dn K "number_of_leaf" gD f2) (a3:Dn K "number_of_two" gQ f3) (a4:Dn K "number_of_division" eB f4) (a5:Dn K "done" zh f5) (a6:Dn K "doing_of" pj f6) (a7:Dn K "deeds_by_sign" ij f7) (a8:Dn K "writes_of" mU f8) (a9:Dn K "do_deeds" iG f9) (a10:Dn K "do_deed" oq ki) (a11:Dn K "do_push" oy iv) (a12:Dn K "do_pull" oz eb) (a13:Dn K "do_draw" oA hS) (a14:Dn K "do_send" oB hC) (a15:Dn K "copied" oC hE) (a16:Dn K "first_state" j9 eH) (a17:Dn K "place_in" o9 ge) (a18:Dn K "put_in" qH hX) (a19:Dn K "pending_at_first" gc er) (a20:Dn K "course_at_first" fv gr) (a21:Dn K "run_on" lT ft) (a22:Dn K "plain" tI eF) (a23:Dn K "_law_mixed" mX dn) (a24:Dn K "_law_purse" mY ek) (a25:Dn K "_law_draw" eC fe) (a26:Dn K "_law_worth" gb ea) (a27:Dn K "_law_formula" gY kt) (a28:Dn K "_law_deeds" jw hI) (a29:Dn K "_law_send" lU ip) (a30:Dn K "_law_deed" lV hF) (a31:Dn K "_law_name" pA el) (a32:Dn K "_law_names" kD dz) (a33:Dn K "_law_machines" ia io) (a34:Dn K "_law_sign" lW hN) (a35:Dn K "_law_signs" kE gM) (a36:Dn K "fork" wX eh) (a37:Dn K "_law_asked" mZ jn) (a38:Dn K "_law_kind" pB ih) (a39:Dn K "_law_near" pC kw) (a40:Dn K "_law_due" oE hf) (a41:Dn K "_law_right" m5 hx) (a42:Dn K "law" Hs hG) (aCM:bR K bD "Model"=some (some (.ref CM))) (a43:Mn K CM "__init__" "Model.__init__" pz fG) (pCM:Cn K CM) (nCMmachines:aU K (.ref CM) "machines"=some none) (aCS:bR K bD "State"=some (some (.ref CS))) (a44:Mn K CS "__init__" "State.__init__" jH dL) (a45:Mn K CS "copy" "State.copy" iR hz) (pCS:Cn K CS) (nCSboxes:aU K (.ref CS) "boxes"=some none) (nCSqueues:aU K (.ref CS) "queues"=some none) (nCSdrawn:aU K (.ref CS) "drawn"=some none) (nCSsent:aU K (.ref CS) "sent"=some none) (aCD:bR K bD "Doing"=some (some (.ref CD))) (a46:Mn K CD "__init__" "Doing.__init__" pf hD) (a47:Mn K CD "now" "Doing.now" jv ez) (a48:Mn K CD "reckon" "Doing.reckon" fu iF) (a49:Mn K CD "queue_of" "Doing.queue_of" eX fx) (a50:Mn K CD "fill" "Doing.fill" gT ii) (pCD:Cn K CD) (nCDmachine:aU K (.ref CD) "machine"=some none) (nCDhappening:aU K (.ref CD) "happening"=some none) (nCDstate:aU K (.ref CD) "state"=some none) (nCDwritten:aU K (.ref CD) "written"=some none) (nCDoutgoing:aU K (.ref CD) "outgoing"=some none) (nCDends:aU K (.ref CD) "ends"=some none) (nCDreckoned:aU K (.ref CD) "reckoned"=some none) (nCDqueued:aU K (.ref CD) "queued"=some none) (aCB:bR K bD "Book"=some (some (.ref CB))) (a51:Mn K CB "__init__" "Book.__init__" qI jl) (pCB:Cn K CB) (nCBrecords:aU K (.ref CB) "records"=some none) (nCBending:aU K (.ref CB) "ending"=some none) (nCBstates:aU K (.ref CB) "states"=some none) (aCC:bR K bD "Course"=some (some (.ref CC))) (a52:Mn K CC "__init__" "Course.__init__" nU dG) (a53:Mn K CC "copy" "Course.copy" gX ed) (a54:Mn K CC "ending_due" "Course.ending_due" fV kc) (a55:Mn K CC "do_one" "Course.do_one" iq ei) (pCC:Cn K CC) (nCCmodel:aU K (.ref CC) "model"=some none) (nCCstates:aU K (.ref CC) "states"=some none) (nCCpending:aU K (.ref CC) "pending"=some none) (nCCreached:aU K (.ref CC) "reached"=some none) (nCCstopped:aU K (.ref CC) "stopped"=some none) (aCK:bR K bD "Keeper"=some (some (.ref CK))) (a56:Mn K CK "__init__" "Keeper.__init__" nV ke) (a57:Mn K CK "run" "Keeper.run" jI ej) (a58:Mn K CK "marks" "Keeper.marks" iH gd) (a59:Mn K CK "go_on" "Keeper.go_on" iI kv) (a60:Mn K CK "course_from" "Keeper.course_from" eY ew) (pCK:Cn K CK) (nCKmodel:aU K (.ref CK) "model"=some none) (nCKsigns:aU K (.ref CK) "signs"=some none) (nCKevery:aU K (.ref CK) "every"=some none) (nCKkept:aU K (.ref CK) "kept"=some none) (aCN:bR K bD "Nought"=some (some (.ref CN))) (xCN:cT K CN o6 "ValueError.__new__"=true) (aCG:bR K bD "Great"=some (some (.ref CG))) (xCG:cT K CG o6 "ValueError.__new__"=true) (aCU:bR K bD "Full"=some (some (.ref I))) (xCU:cT K I o6 "ValueError.__new__"=true) (aCY:bR K bD "Dry"=some (some (.ref J))) (xCY:cT K J o6 "ValueError.__new__"=true) (aCP:bR K bD "Span"=some (some (.ref O))) (xCP:cT K O o6 "ValueError.__new__"=true) (aCL:bR K bD "Late"=some (some (.ref CL))) (xCL:cT K CL o6 "ValueError.__new__"=true) (aCF:bR K bD "Fault"=some (some (.ref CF))) (xCF:cT K CF o6 "ValueError.__new__"=true) (aCNm:bR K bD "NoMark"=some (some (.ref g))) (xCNm:cT K g o6 "ValueError.__new__"=true) (aCTl:bR K bD "TooLate"=some (some (.ref sx))) (xCTl:cT K sx o6 "ValueError.__new__"=true) (enn:cN K (.ref CN) (.ref CN)=some true) (egn:cN K (.ref CG) (.ref CN)=some false) (egg:cN K (.ref CG) (.ref CG)=some true) (aCEr:bR K bD "MomentError"=some (some (.ref mE))) (aCTx:bR K bD "NoText"=some (some (.ref CTx))) (aCRm:bR K bD "NoRoom"=some (some (.ref nT))) (aCMd:bR K bD "NoModel"=some (some (.ref CMd))) (tNm:bV K (.ref g) (.type "tuple")=some false) (vNm:bV K (.ref g) (.type "ValueError")=some true) (oNm:l9 K (.ref g) [.ref CF,.ref CMd,.ref nT,.ref CTx]=some false) (sNm:bV K (.ref g) (.ref g)=some true) (nNm:bV K (.ref g) (.ref sx)=some false) (xeNm:cN K (.ref g) (.ref mE)=some true) (XNm:lQ K g) (tTl:bV K (.ref sx) (.type "tuple")=some false) (vTl:bV K (.ref sx) (.type "ValueError")=some true) (oTl:l9 K (.ref sx) [.ref CF,.ref CMd,.ref nT,.ref CTx]=some false) (sTl:bV K (.ref sx) (.ref sx)=some true) (nTl:bV K (.ref sx) (.ref g)=some false) (xeTl:cN K (.ref sx) (.ref mE)=some true) (XTl:lQ K sx) (xfCN:cN K (.ref CN) (.ref CF)=some true) (XN100:lQ K CN) (a100:Mn K CN "word" "Nought.word" nJ rm) (xfCG:cN K (.ref CG) (.ref CF)=some true) (XN101:lQ K CG) (a101:Mn K CG "word" "Great.word" o8 ri) (xfCU:cN K (.ref I) (.ref CF)=some true) (XN102:lQ K I) (a102:Mn K I "word" "Full.word" qE ro) (xfCY:cN K (.ref J) (.ref CF)=some true) (XN103:lQ K J) (a103:Mn K J "word" "Dry.word" sO rr) (xfCP:cN K (.ref O) (.ref CF)=some true) (XN104:lQ K O) (a104:Mn K O "word" "Span.word" qF si) (xfCL:cN K (.ref CL) (.ref CF)=some true) (XN105:lQ K CL) (a105:Mn K CL "word" "Late.word" qG sd) (zlen:bR K bD "len"=some none) (zabs:bR K bD "abs"=some none) (zisinstance:bR K bD "isinstance"=some none) (zlist:bR K bD "list"=some none) (ztuple:bR K bD "tuple"=some none) (zstr:bR K bD "str"=some none) (zint:bR K bD "int"=some none) (zbool:bR K bD "bool"=some none) (zrange:bR K bD "range"=some none) (zmax:bR K bD "max"=some none) (zdict:bR K bD "dict"=some none) (zsorted:bR K bD "sorted"=some none) (zenumerate:bR K bD "enumerate"=some none) (zmin:bR K bD "min"=some none) (zValueError:bR K bD "ValueError"=some none) :
  ∃fd:bX,(∀(s:ao) (v:ae),uV s fd {[v],[]} [("_law_script",v)])/\∀base:cC,K.In base->base.Ns bD mg->bL l.prog w K mg base CX0 42 fa fd ["_law_script"] (Ej K):=by
 obtain⟨_,D1⟩:=dfx ["formula","state","now","got"] X G a1;obtain⟨_,D2⟩:=dfx ["formula","state","now","got"] X G a2;obtain⟨_,D3⟩:=dfx ["kind","first","second"] X G a3;obtain⟨_,D4⟩:=dfx ["kind","first","second"] X G a4;obtain⟨_,D5⟩:=dfx ["model","state","happening"] X G a5;obtain⟨_,D6⟩:=dfx ["model","state","happening"] X G a6;obtain⟨_,D7⟩:=dfx ["machine","sign"] X G a7;obtain⟨_,D8⟩:=dfx ["doing"] X G a8;obtain⟨_,D9⟩:=dfx ["doing","deeds"] X G a9;obtain⟨_,ph⟩:=dfx ["doing","deed"] X G a10;obtain⟨_,rb⟩:=dfx ["doing","name","formula"] X G a11;obtain⟨_,pa⟩:=dfx ["doing","name","box","otherwise"] X G a12;obtain⟨_,qf⟩:=dfx ["doing","box","formula"] X G a13;obtain⟨_,qt⟩:=dfx ["doing","deed"] X G a14;obtain⟨_,lz⟩:=dfx ["thing"] X G a15;obtain⟨_,pw⟩:=dfx ["model","at"] X G a16;obtain⟨_,pk⟩:=dfx ["falling","thing"] X G a17;obtain⟨_,z⟩:=dfx ["falling","thing"] X G a18;obtain⟨_,ra⟩:=dfx ["signs"] X G a19;obtain⟨_,py⟩:=dfx ["model","signs"] X G a20;obtain⟨_,pR⟩:=dfx ["course","most"] X G a21;obtain⟨_,oe⟩:=dfx ["model","signs","most"] X G a22;obtain⟨_,eL⟩:=dfx ["_law_cell","_law_k"] X G a23;obtain⟨_,lr⟩:=dfx ["_law_script"] X G a24;obtain⟨_,pi⟩:=dfx ["_law_purse_here","_law_out_of"] X G a25;obtain⟨_,oc⟩:=dfx ["_law_purse_here"] X G a26;obtain⟨_,ee⟩:=dfx ["_law_purse_here","_law_low","_law_boxes","_law_queues"] X G a27;obtain⟨_,lx⟩:=dfx ["_law_purse_here","_law_low","_law_left","_law_there","_law_many"] X G a28;obtain⟨_,eo⟩:=dfx ["_law_purse_here","_law_there","_law_many"] X G a29;obtain⟨_,gl⟩:=dfx ["_law_purse_here","_law_low","_law_left","_law_there","_law_many"] X G a30;obtain⟨_,ec⟩:=dfx ["_law_purse_here","_law_long"] X G a31;obtain⟨_,lk⟩:=dfx ["_law_purse_here","_law_many","_law_first"] X G a32;obtain⟨_,la⟩:=dfx ["_law_purse_here"] X G a33;obtain⟨_,mr⟩:=dfx ["_law_purse_here","_law_many"] X G a34;obtain⟨_,kI⟩:=dfx ["_law_purse_here","_law_many"] X G a35;obtain⟨_,mf⟩:=dfx ["keeper","number","sign","most"] X G a36;obtain⟨_,kG⟩:=dfx ["_law_keeper","_law_number","_law_sign_here","_law_most"] X G a37;obtain⟨_,lc⟩:=dfx ["_law_told"] X G a38;obtain⟨_,md⟩:=dfx ["_law_purse_here","_law_many","_law_records"] X G a39;obtain⟨_,mm⟩:=dfx ["_law_records","_law_count","_law_number","_law_sign_here"] X G a40;obtain⟨_,lj⟩:=dfx ["_law_model","_law_signs_here","_law_sign_here","_law_number","_law_most","_law_told"] X G a41;obtain⟨_,nh⟩:=dfx ["_law_script"] X G a42;obtain⟨_,lv,kz,lw⟩:=mfx ["self","machines"] a43;have mq:Mk K CM _:=⟨pCM.m,lw.at_,lw.fn,pCM.k⟩;obtain⟨_,ss,sv,mc⟩:=mfx ["self","boxes","queues","drawn","sent"] a44;obtain⟨_,pM,dt,im⟩:=mfx ["self"] a45;have D:Mk K CS _:=⟨pCS.m,mc.at_,mc.fn,pCS.k⟩;obtain⟨_,oD,pe,lf⟩:=mfx ["self","machine","state","happening"] a46;obtain⟨_,dv,fo,gw⟩:=mfx ["self"] a47;obtain⟨_,js,il,hT⟩:=mfx ["self","formula"] a48;obtain⟨_,hn,hK,hA⟩:=mfx ["self","name"] a49;obtain⟨_,hR,ha,fz⟩:=mfx ["self","box","worth"] a50;have oi:Mk K CD _:=⟨pCD.m,lf.at_,lf.fn,pCD.k⟩;obtain⟨_,mW,na,mp⟩:=mfx ["self","records","ending","states"] a51;have mv:Mk K CB _:=⟨pCB.m,mp.at_,mp.fn,pCB.k⟩;obtain⟨_,pq,pp,ly⟩:=mfx ["self","model","states","pending"] a52;obtain⟨_,pm,mn,mt⟩:=mfx ["self"] a53;obtain⟨_,he,hL,ey⟩:=mfx ["self","left"] a54;obtain⟨_,ix,hB,kn⟩:=mfx ["self"] a55;have pr:Mk K CC _:=⟨pCC.m,ly.at_,ly.fn,pCC.k⟩;obtain⟨_,hY,em,mb⟩:=mfx ["self","model","signs","every"] a56;obtain⟨_,ky,hQ,dV⟩:=mfx ["self","most"] a57;obtain⟨_,hj,ef,hg⟩:=mfx ["self"] a58;obtain⟨_,ml,hP,jp⟩:=mfx ["self","number","most"] a59;obtain⟨_,nf,hO,hy⟩:=mfx ["self","number"] a60;have gq:Mk K CK _:=⟨pCK.m,mb.at_,mb.fn,pCK.k⟩;have e:=ka.symm.trans nh.m
 cases e;have B:Bl mg:={cP X G zlen,cP X G zabs,cP X G zisinstance,cP X G zlist,cP X G ztuple,cP X G zstr,cP X G zint,cP X G zbool,cP X G zrange,cP X G zmax,cP X G zdict};have Z:MdT K mg CM CS:={pCM.c,pCS.c,nCMmachines,nCSboxes,nCSqueues,nCSdrawn,nCSsent,cE X G aCM,cE X G aCS};have W:DT K mg CD:={pCD.c,nCDmachine,nCDhappening,nCDstate,nCDwritten,nCDoutgoing,nCDends,nCDreckoned,nCDqueued,cE X G aCD};have U:HN K mg (jN CN CG I J O CL):={{cE X G aCN,cE X G aCG,xCN,xCG,enn,egn,egg},cE X G aCU,cE X G aCY,cE X G aCP,cE X G aCL,xCU,xCY,xCP,xCL};have Y:Mt K CD "now" "Doing.now" jv ["self"] _ _:=⟨dv,fo,gw⟩;have MtR:Mt K CD "reckon" "Doing.reckon" fu ["self","formula"] _ _:=⟨js,il,hT⟩;have rf:Mt K CD "queue_of" "Doing.queue_of" eX ["self","name"] _ _:=⟨hn,hK,hA⟩;have qb:Mt K CD "fill" "Doing.fill" gT ["self","box","worth"] _ _:=⟨hR,ha,fz⟩;have px:Mt K CS "copy" "State.copy" iR ["self"] _ _:=⟨pM,dt,im⟩;obtain⟨_,sk,mz,fy⟩:=mfx ["self"] a100;obtain⟨_,rx,mu,kh⟩:=mfx ["self"] a101;obtain⟨_,sh,my,fk⟩:=mfx ["self"] a102;obtain⟨_,rz,no,gt⟩:=mfx ["self"] a103;obtain⟨_,sf,nc,et⟩:=mfx ["self"] a104;obtain⟨_,ry,mx,hH⟩:=mfx ["self"] a105;have NK:KdT K mg g sx CF CMd nT CTx:={cE X G aCNm,cE X G aCF,cE X G aCMd,cE X G aCRm,cE X G aCTx,cE X G aCTl,cP X G zValueError,XNm,XTl,tNm,tTl,vNm,vTl,oNm,oTl,sNm,nNm,sTl,nTl};have kB:Mt K CK "marks" "Keeper.marks" iH ["self"] _ _:=⟨hj,ef,hg⟩;have TK:KeT K mg CK:={pCK.c,nCKmodel,nCKsigns,nCKevery,nCKkept,cE X G aCK};have ov:Mt K CC "copy" "Course.copy" gX ["self"] _ _:=⟨pm,mn,mt⟩;have ls:Mt K CK "run" "Keeper.run" jI ["self","most"] _ _:=⟨ky,hQ,dV⟩;have lp:Mt K CK "go_on" "Keeper.go_on" iI ["self","number","most"] _ _:=⟨ml,hP,jp⟩;have nz:Mt K CK "course_from" "Keeper.course_from" eY ["self","number"] _ _:=⟨nf,hO,hy⟩;have lM:mg "min"=none:=cP X G zmin;have TB:BkT K mg CB:={pCB.c,nCBrecords,nCBending,nCBstates,cE X G aCB};have V:CoT K mg CC:={pCC.c,nCCmodel,nCCstates,nCCpending,nCCreached,nCCstopped,cE X G aCC};have H:Mt K CC "ending_due" "Course.ending_due" fV ["self","left"] _ _:=⟨he,hL,ey⟩;have rc:Mt K CC "do_one" "Course.do_one" iq ["self"] _ _:=⟨ix,hB,kn⟩;have ow:mg "sorted"=none:=cP X G zsorted;have ME:mg "enumerate"=none:=cP X G zenumerate;have oT:mg "Fault"=some (.ref CF):=cE X G aCF;have MW:∀e,yQ K ((jN CN CG I J O CL) e) "word" ((pX rm ri ro rr si sd) e):=fun e=>by cases e<;>assumption
 have pc:∀e,lQ K ((jN CN CG I J O CL) e):=fun e=>by cases e<;>assumption
 have pb:∀e,cN K (.ref ((jN CN CG I J O CL) e)) (.ref CF)=some true:=fun e=>by cases e<;>assumption
 have BW:∀e,Binds K (pX _ _ _ _ _ _ e) ["self"] []:=rF mz mu my no nc mx;exact{_,law_b nh.F fun _ _ _ _ _ _ _=>rfl,fun base _ _=>OR nh lr (IG lr eL B) pi la (ok_ms la lk (II lk ec pi B) lx (fun bs qs=>Mf lx gl eo ee pi oc B 4) pi oc B) kI (ok_ss kI mr pi oc B) md (ok_nr md mr pi oc B lM) mq (LF (n:=29) lv lz B Z) kz gq (ok_ki hY mq (LF (n:=29) lv lz B Z) kz py (zy py pw (rq pw D ss sv B Z) ra (w9 ra ME) pr pp (xm pq V) V Z B ow) TK Z B) em ls (ok_kr ky py (zy py pw (rq pw D ss sv B Z) ra (w9 ra ME) pr pp (xm pq V) V Z B ow) ov (Cc pm px (ng pM D ss sv B Z) pr (xm pq V) pp V Z B) H (yv H V) pR (xk pR H (yv H V) rc (xj (cf:=(jN CN CG I J O CL)) (fW:=(pX rm ri ro rr si sd)) (fdW:=(pX _ _ _ _ _ _)) rc z (uJ z pk B) D5 (fun bq=>(tR (n:=5) D5 D6 oi pe (AG oD px (ng pM D ss sv B Z) W Z) D9 (oI D9 ph qb MtR (gk (cf:=(jN CN CG I J O CL)) MtR Y D1 D3 D4 D2 W U Z B) pa rb (tO rb MtR (gk (cf:=(jN CN CG I J O CL)) MtR Y D1 D3 D4 D2 W U Z B) rf W U Z B) qf (qO qf MtR (gk (cf:=(jN CN CG I J O CL)) MtR Y D1 D3 D4 D2 W U Z B) qb W U Z B) qt (tP qt MtR (gk (cf:=(jN CN CG I J O CL)) MtR Y D1 D3 D4 D2 W U Z B) Y W U Z B) rf W Z 5) D7 D8 W Z B)) MW BW (rF (lZ sk) (oP rx) (qU sh) (tT rz) (qV sf) (qW ry)) pc oT pb V Z) V B) mv na (Ii mW TB) TK V TB B lM) kB ow lp (ok_kg ml nz (Mr nf ov (Cc pm px (ng pM D ss sv B Z) pr (xm pq V) pp V Z B) TK V (cE X G aCNm) xCNm) pR (xk pR H (yv H V) rc (xj (cf:=(jN CN CG I J O CL)) (fW:=(pX rm ri ro rr si sd)) (fdW:=(pX _ _ _ _ _ _)) rc z (uJ z pk B) D5 (fun bq=>(tR (n:=5) D5 D6 oi pe (AG oD px (ng pM D ss sv B Z) W Z) D9 (oI D9 ph qb MtR (gk (cf:=(jN CN CG I J O CL)) MtR Y D1 D3 D4 D2 W U Z B) pa rb (tO rb MtR (gk (cf:=(jN CN CG I J O CL)) MtR Y D1 D3 D4 D2 W U Z B) rf W U Z B) qf (qO qf MtR (gk (cf:=(jN CN CG I J O CL)) MtR Y D1 D3 D4 D2 W U Z B) qb W U Z B) qt (tP qt MtR (gk (cf:=(jN CN CG I J O CL)) MtR Y D1 D3 D4 D2 W U Z B) Y W U Z B) rf W Z 5) D7 D8 W Z B)) MW BW (rF (lZ sk) (oP rx) (qU sh) (tT rz) (qV sf) (qW ry)) pc oT pb V Z) V B) TK) kG (ok_ak kG mf (ok_fk mf nz (Mr nf ov (Cc pm px (ng pM D ss sv B Z) pr (xm pq V) pp V Z B) TK V (cE X G aCNm) xCNm) ra (w9 ra ME) z (uJ z pk B) pR (xk pR H (yv H V) rc (xj (cf:=(jN CN CG I J O CL)) (fW:=(pX rm ri ro rr si sd)) (fdW:=(pX _ _ _ _ _ _)) rc z (uJ z pk B) D5 (fun bq=>(tR (n:=5) D5 D6 oi pe (AG oD px (ng pM D ss sv B Z) W Z) D9 (oI D9 ph qb MtR (gk (cf:=(jN CN CG I J O CL)) MtR Y D1 D3 D4 D2 W U Z B) pa rb (tO rb MtR (gk (cf:=(jN CN CG I J O CL)) MtR Y D1 D3 D4 D2 W U Z B) rf W U Z B) qf (qO qf MtR (gk (cf:=(jN CN CG I J O CL)) MtR Y D1 D3 D4 D2 W U Z B) qb W U Z B) qt (tP qt MtR (gk (cf:=(jN CN CG I J O CL)) MtR Y D1 D3 D4 D2 W U Z B) Y W U Z B) rf W Z 5) D7 D8 W Z B)) MW BW (rF (lZ sk) (oP rx) (qU sh) (tT rz) (qV sf) (qW ry)) pc oT pb V Z) V B) TK V (cE X G aCTl) xCTl) (cE X G aCEr) xeNm xeTl) lc (ok_kd lc NK B) mm (ok_du mm B) lj (ok_rt lj oe (IE oe py (zy py pw (rq pw D ss sv B Z) ra (w9 ra ME) pr pp (xm pq V) V Z B ow) pR (xk pR H (yv H V) rc (xj (cf:=(jN CN CG I J O CL)) (fW:=(pX rm ri ro rr si sd)) (fdW:=(pX _ _ _ _ _ _)) rc z (uJ z pk B) D5 (fun bq=>(tR (n:=5) D5 D6 oi pe (AG oD px (ng pM D ss sv B Z) W Z) D9 (oI D9 ph qb MtR (gk (cf:=(jN CN CG I J O CL)) MtR Y D1 D3 D4 D2 W U Z B) pa rb (tO rb MtR (gk (cf:=(jN CN CG I J O CL)) MtR Y D1 D3 D4 D2 W U Z B) rf W U Z B) qf (qO qf MtR (gk (cf:=(jN CN CG I J O CL)) MtR Y D1 D3 D4 D2 W U Z B) qb W U Z B) qt (tP qt MtR (gk (cf:=(jN CN CG I J O CL)) MtR Y D1 D3 D4 D2 W U Z B) Y W U Z B) rf W Z 5) D7 D8 W Z B)) MW BW (rF (lZ sk) (oP rx) (qU sh) (tT rz) (qV sf) (qW ry)) pc oT pb V Z) V B) mv na (Ii mW TB) TB V) TB B) oe (IE oe py (zy py pw (rq pw D ss sv B Z) ra (w9 ra ME) pr pp (xm pq V) V Z B ow) pR (xk pR H (yv H V) rc (xj (cf:=(jN CN CG I J O CL)) (fW:=(pX rm ri ro rr si sd)) (fdW:=(pX _ _ _ _ _ _)) rc z (uJ z pk B) D5 (fun bq=>(tR (n:=5) D5 D6 oi pe (AG oD px (ng pM D ss sv B Z) W Z) D9 (oI D9 ph qb MtR (gk (cf:=(jN CN CG I J O CL)) MtR Y D1 D3 D4 D2 W U Z B) pa rb (tO rb MtR (gk (cf:=(jN CN CG I J O CL)) MtR Y D1 D3 D4 D2 W U Z B) rf W U Z B) qf (qO qf MtR (gk (cf:=(jN CN CG I J O CL)) MtR Y D1 D3 D4 D2 W U Z B) qb W U Z B) qt (tP qt MtR (gk (cf:=(jN CN CG I J O CL)) MtR Y D1 D3 D4 D2 W U Z B) Y W U Z B) rf W Z 5) D7 D8 W Z B)) MW BW (rF (lZ sk) (oP rx) (qU sh) (tT rz) (qV sf) (qW ry)) pc oT pb V Z) V B) mv na (Ii mW TB) TB V) Z TK TB XTl tTl B}
theorem walk{l:vx}{q:aM}{Z:List Str}{O:(Str->Option ae)->cC->Prop}{W:bO->cC->Prop}{d:DefRec}{K:Params->af}(J:l.most=some 63)(Y:d.params.defaults=[])
  (U:∀(w:bO) (h:cC),W w h->(K w.params).In h)
  (F:∀(w:bO) (mg:Str->Option ae) (V:aa) (h:cC),(K w.params).In h->h.Ns bD mg->mg d.name=some (.ref V) ->
   ∃fd:bX,(∀(s:ao) (u:ae),uV s fd {[u],[]} [("_law_script",u)])/\∀base:cC,(K w.params).In base->base.Ns bD mg->bL l.prog w (K w.params) mg base CX0 42 V fd ["_law_script"] (Ej (K w.params))) :
  Jm q Z O W l.row.toRowW d [] (fun f vs=>EJ f vs):=
 L2.walk_ofB (n:=63) (k:=42) (x:="_law_script") (CX:=fun _=>CX0) (sp:=fun w=>Ej (K w.params)) J (by decide) Y {rfl,by decide,by decide} U F (fun _ _ a ns hl hb I=>{a,ns,rfl,I,hl,hb,fun _=>rfl}) fun _ _ _ _ _ z=>z
end My
namespace PySem.W.Fast
def tw15359587870723323125:=0
def tw16475787269830115976:=0
def tw15280794808609780233:=0
def tw10266594806463313889:=0
def tw14452178662143795379:=0
def tw17059200810103515038:=0
def tw7539514145563110559:=0
def tw2818984349480734271:=0
def tw17169571457154468301:=0
def tw8762773002404044990:=0
def tw303093557069188668:=0
def tw2852688375781723888:=0
def tw4227319604778441495:=0
def tw497276277521048125:=0
def tw9714399467807988778:=0
def tw8787206779651902698:=0
def tw705971459654398579:=0
def tw3207234212503999528:=0
def tw6069517746163936999:=0
def tw1442698559087410442:=0
def tw3945143925338394955:=0
def tw310342527253703819:=0
def tw14353183597068962679:=0
def tw15217317618295415567:=0
def tw18195271984783715291:=0
def tw17131521990188786481:=0
def tw13828204024632524505:=0
def tw12250771830082329117:=0
def tw2310933374653001012:=0
def tw17797515248257067881:=0
def tw303781161430166863:=0
def tw18410704326740417271:=0
def tw16273099245776244617:=0
def tw3034938423427772592:=0
def tw5521096972518260252:=0
def tw5659403244808742148:=0
def tw13868284926787103417:=0
def tw2777246513890840244:=0
def tw14916613793176987931:=0
def tw9211418359593266344:=0
def tw3883714909304394930:=0
def tw11192347073435728571:=0
def tw14767089044144104920:=0
def tw5987649163821850716:=0
def tw6457724980774132130:=0
def tw16318021310087321750:=0
def tw16679007461083644836:=0
def tw10771867114149084180:=0
def tw16724473399663311091:=0
def tw9047123704064784906:=0
def tw3489773652989292061:=0
def tw1702544791606188520:=0
def tw687185649662897183:=0
def tw2469900895795733199:=0
def tw16808506209485642186:=0
def tw549044863416709681:=0
def tw15445073393229849254:=0
def tw15319032233148755052:=0
def tw11860169953296645788:=0
def tw10655257467959069616:=0
def tw870283923489681297:=0
def tw1205115735928442123:=0
def tw18009735622350389696:=0
def tw11672881708020447164:=0
def tw2929690343625359018:=0
def tw4029270760695990088:=0
def tw10562554712560622329:=0
def tw2124426114716222056:=0
def tw15257714244236764262:=0
def tw9046949356901530613:=0
def tw6643997795734606385:=0
def tw6133424987740143536:=0
def tw1875467556046237644:=0
def tw10224087858818162202:=0
def tw13809125842939172549:=0
def tw2650153396755495223:=0
def tw13398096829069161859:=0
def tw5083720846312119996:=0
def tw11425130073477828406:=0
def tw16802766475198792917:=0
def tw4082468558685406493:=0
def tw479267027422482720:=0
def tw9453727024764372035:=0
def tw9424718880788347425:=0
def tw10730182635092710074:=0
def tw3222854169328301783:=0
def tw12539363159847060403:=0
def tw4731984132058985779:=0
def tw18385454012242567182:=0
def tw10740511378229585300:=0
def tw364739508915988486:=0
def tw1256968386157624440:=0
def tw5405363224873849101:=0
def tw18090321848729992241:=0
def tw7664363072746911271:=0
def tw5079316654831959851:=0
def tw8372557816062618035:=0
def tw4875459907585243618:=0
def tw8774924007596412155:=0
def tw9670399175780798543:=0
def tw1613753853205311470:=0
def tw10295603352131661727:=0
def tw11541375948280899788:=0
def tw4692701135243823177:=0
def tw17784041599044653044:=0
def tw7133627638509352365:=0
def tw1185745392344475351:=0
def tw13766958107701414592:=0
def tw13602868028974613768:=0
def tw10892821246899203367:=0
def tw8243377171248398725:=0
def tw8840295201239076639:=0
def tw5332566710446768558:=0
def tw6049217222135453602:=0
def tw4732225782733966192:=0
def tw11905351125215673461:=0
def tw17345813933906508954:=0
def tw7896923804825312002:=0
def tw12294310404421023274:=0
def tw365082161424943960:=0
def tw2044821902079550728:=0
def tw15534171573144709831:=0
def tw5569299786395376587:=0
def tw658476621985813181:=0
def tw9846855843430902564:=0
def tw6208903749216626874:=0
def tw4847705830335600273:=0
def tw13067833331219690188:=0
def tw5885911391869662963:=0
def tw4310904158876782291:=0
def tw13302528676345153968:=0
def tw4887862638910462221:=0
def tw17878469378728458749:=0
def tw15202261035596011690:=0
def tw6561559099980377935:=0
def tw6805705363818056677:=0
def tw4524541106002945695:=0
def tw13192298912694192431:=0
def tw554217533079934777:=0
def tw7894179722886380133:=0
def tw268581837413578780:=0
def tw11163207495167034134:=0
def tw13295155458272209454:=0
def tw12894936576183755594:=0
def tw1922590102733475530:=0
def tw5707856872821072385:=0
def tw2463591772798532414:=0
def tw4437475716183655721:=0
def tw12768690250642731307:=0
def tw10675671485784490572:=0
def tw14947053204832790875:=0
def tw4741728213030415565:=0
def tw13282768868496939492:=0
def tw6743671726276926892:=0
def tw8052029458975684288:=0
def tw6797955461592323588:=0
def tw15206128280435921401:=0
def tw2171019543382476690:=0
def tw9868888516539347913:=0
def tw8490528266883369127:=0
def tw16087545022026388458:=0
def tw4161499853690785478:=0
def tw2867349492458278082:=0
def tw8496888177652431114:=0
def tw10519287984581779592:=0
def tw16592563431734185442:=0
def tw11165942482822385900:=0
def tw1696832662091168800:=0
def tw14479484593847127578:=0
def tw5998822016669781647:=0
def tw4922924029002066503:=0
def tw5698948700533356252:=0
def tw18311968988192889933:=0
def tw2922677491954151121:=0
def tw9400412097874924643:=0
def tw4395067309054794435:=0
def tw11998798976335436945:=0
def tw16192427294698790001:=0
def tw8762144613365266426:=0
def tw15811269714411842399:=0
def tw9093885753721295997:=0
def tw6110543925616730400:=0
def tw17842423383482229895:=0
def tw13401881324886884289:=0
def tw14051266253645851158:=0
def tw11681105067265068788:=0
def tw12205448233102616477:=0
def tw9180023795440258113:=0
def tw17661204299627070039:=0
def tw10560532819825705054:=0
def tw5544958905684255530:=0
def tw15965698343006715764:=0
def tw123582419401429830:=0
def tw14415425743910404290:=0
def tw93154593297263554:=0
def tw16741257575856215645:=0
def tw16326612557274244480:=0
def tw8292062502955644304:=0
def tw5807883278503098577:=0
def tw13030283274534311022:=0
def tw12477364607892607708:=0
def tw656104619636036297:=0
def tw17158346070884932805:=0
def tw11785273119992524344:=0
def tw13749943197772053709:=0
def tw6549233194784372536:=0
def tw16322352497192442465:=0
def tw12904610168584939395:=0
def tw14633147028507370421:=0
def tw397365977149088348:=0
def tw18412522684769296642:=0
def tw17687977893395184285:=0
def tw3614777694818114374:=0
def tw16968259870776018618:=0
def tw2009433320254486011:=0
def tw6970056183593733174:=0
def tw12150832644852221726:=0
def tw11056928727383646139:=0
def tw7149326571459345835:=0
def tw8061102905346259386:=0
def tw768287476600067256:=0
def tw5041501583834141972:=0
def tw8772754996683922565:=0
def tw6986813719243877252:=0
def tw3363511537614369812:=0
def tw18342612216736841191:=0
def tw9954734200836156532:=0
def tw7399279029895677893:=0
def tw1463542593501665095:=0
def tw4782076127560054592:=0
def tw10434465369824755097:=0
def tw5246418173112623897:=0
def tw8871148813664294776:=0
def tw11552359193140406670:=0
def tw4408655053926797772:=0
def tw10036781061663156754:=0
def tw12918656645640309267:=0
def tw6318400504784981056:=0
def tw4358641457825262069:=0
def tw9513001600433053768:=0
def tw986342341377933777:=0
def tw11998899114117508521:=0
def tw5281598283925513475:=0
def tw2789278399022743331:=0
def tw6802076206436515992:=0
def tw11031139223278307516:=0
def tw9460607708498326104:=0
def tw12463343656546983627:=0
def tw8084218231492244337:=0
def tw637306248375481651:=0
def tw10375157263392759154:=0
def tw6359592713527735875:=0
def tw7796263035649569550:=0
def tw14768407569675549057:=0
def tw13147845401675109943:=0
def tw13696114806902357966:=0
def tw6577169374435617482:=0
def tw16603396331660634031:=0
def tw11165031924439849067:=0
def tw15134063283035143896:=0
def tw3554864748179150189:=0
def tw876765719415935797:=0
def tw6511746250398177092:=0
def tw6795257490975233883:=0
def tw17302864018959799731:=0
def tw5784750893332119514:=0
def tw7786258091902350148:=0
def tw8461873980771857146:=0
def tw1399542688870171101:=0
def tw6969416742603803576:=0
def tw17033686666152940559:=0
def tw3882072795695667568:=0
def tw10225318741485899541:=0
def tw3791381632582042651:=0
def tw15808390706135930082:=0
def tw8098960571879015158:=0
def tw18143442599018231473:=0
def tw4258189767218054382:=0
def tw14204135774808058299:=0
def tw14981093323479014383:=0
def tw4579294920870194193:=0
def tw15040240068888064776:=0
def tw567644098752738196:=0
def tw13495476459916166245:=0
def tw9703889806111243157:=0
def tw17279797390601339407:=0
def tw5008885220148613133:=0
def tw16286522499022623042:=0
def tw14637724370009336384:=0
def tw5057217379111447244:=0
def tw17268231723023484907:=0
def tw3578918056332185245:=0
def tw676095584478330433:=0
def tw8344821194051826501:=0
def tw3181823900479994737:=0
def tw4746525491644025356:=0
def tw10216148061679700879:=0
def tw5430790991007353817:=0
def tw12918690797512768142:=0
def tw12297673458090846866:=0
def tw14328160104318931560:=0
def tw16430877758652420610:=0
def tw17214831647018978358:=0
def tw2875363970101757804:=0
def tw12480177283363406459:=0
def tw13125641067386435107:=0
def tw2608823597632600610:=0
def tw8207705576138944542:=0
def tw12916694942735201519:=0
def tw2594152557363470200:=0
def tw11086992244600818637:=0
def tw1951438131464488046:=0
def tw14568365704835885495:=0
def tw14636945109705454520:=0
def tw10289428423131099973:=0
def tw16563054698540719291:=0
def tw54260304041511912:=0
def tw2876153487515402619:=0
def tw6459181734206461867:=0
def tw9047079698929405880:=0
def tw12605625281483436156:=0
def tw16412593355168335258:=0
def tw3199320794618551987:=0
def tw10118089212299885392:=0
def tw9625134335124865578:=0
def tw12949219669691570702:=0
def tw8181582170373078927:=0
def tw9757453644866318716:=0
def tw278158517778997533:=0
def tw1839335265207962887:=0
def tw9477853949245389132:=0
def tw2943357329714249669:=0
def tw949387993549540754:=0
def tw7992826398195217020:=0
def tw734064303683601565:=0
def tw13690059932015156419:=0
def tw440377538632802971:=0
def tw6579127194267202419:=0
def tw13854233018730455433:=0
def tw9877403779137652982:=0
def tw8978165907993093997:=0
def tw899869030148596078:=0
def tw17000985359486728373:=0
def tw5845449878320771079:=0
def tw6725796807012269028:=0
def tw2153508259506575021:=0
def tw5167310916184497022:=0
def tw17925717935111925966:=0
def tw15404826114226881819:=0
def tw5009978877352586432:=0
def tw4381617047108933184:=0
def tw2541518849820390068:=0
def tw9707241138941580202:=0
def tw11341213707986965599:=0
def tw4407491155366389416:=0
def tw2224767484923499305:=0
def tw13849702660190672429:=0
def tw3293994029987346551:=0
def tw7822845278649584363:=0
def tw14880348671251616247:=0
def tw7404630276777834390:=0
def tw12644214863644207801:=0
def tw9230958248164197631:=0
def tw15863779609743682600:=0
def tw15246256849711476200:=0
def tw1934742263650116827:=0
def tw16617119807656481753:=0
def tw6024077706182771739:=0
def tw1792920922683246210:=0
def tw8522691084761984278:=0
def tw3298390094610305704:=0
def tw1856443007324550311:=0
def tw14559851458879320835:=0
def tw1435427084972893782:=0
def tw6752472896992993051:=0
def tw2177903393804960584:=0
def tw9382898276575830991:=0
def tw18250820386581353095:=0
def tw7289322282325074295:=0
def tw4283522418939938382:=0
def tw17006158292494792655:=0
def tw17078565085696187382:=0
def tw16529204660607378996:=0
def tw12372180955085327409:=0
def tw14733976636255886692:=0
def tw4113713109990038411:=0
def tw6757234845044807012:=0
def tw10377545264648671989:=0
def tw13433663384445222764:=0
def tw5850705990062418333:=0
def tw643305700340505703:=0
def tw14353142746239638396:=0
def tw7143392139075280271:=0
def tw3631322655178799919:=0
def tw18021295836191268373:=0
def tw2041972386869119647:=0
def tw8412165429413117722:=0
def tw17003421208980805439:=0
def tw9323530815825673530:=0
def tw5889548505091667026:=0
def tw580217186160238528:=0
def tw15811827237687849627:=0
def tw15884398662780476612:=0
def tw1025509732437876086:=0
def tw9914842689944668432:=0
def tw8438357087884598405:=0
def tw15197831680260693653:=0
def tw2267784898613198543:=0
def tw10220404887037540998:=0
def tw17370810855640657326:=0
def tw5245114226242317208:=0
def tw17160612397924661512:=0
def tw15798545248388083207:=0
def tw8908284048468108090:=0
def tw15060279734894026922:=0
def tw7360895618867178196:=0
def tw9738029781400247751:=0
def tw8469032129142903792:=0
def tw5292049866275892983:=0
def tw7493579421676949589:=0
def tw13882497503208833525:=0
def tw11316505399423486515:=0
def tw7989688717799214982:=0
def tw16697614248880259338:=0
def tw6225137359766437696:=0
def tw13042458184881665491:=0
def tw1848173013920944301:=0
def tw7113739478373214327:=0
def tw12326658735794748968:=0
def tw10611691138039002204:=0
def tw1292251239161779113:=0
def tw17628154007640397317:=0
def tw2913498488785145579:=0
def tw15470470016901530401:=0
def tw16709638955788365103:=0
def tw16528348324869915421:=0
def tw10485437575186383050:=0
def tw6181478791502210571:=0
def tw2879076266901356759:=0
def tw14541230150978518589:=0
def tw14258991472879034110:=0
def tw11471819317859545386:=0
def tw10625402195102509862:=0
def tw2905283327862524532:=0
def tw14909151354510687916:=0
def tw18319838520190335697:=0
def tw652188447043293969:=0
def tw7822644002094131446:=0
def tw9479692749636609311:=0
def tw2574914852598564519:=0
def tw9864349460292874283:=0
def tw1370739213415626952:=0
def tw10588442526934965685:=0
def tw15325510033063374421:=0
def tw7135146806418116444:=0
def tw12214141667676437672:=0
def tw14292643811076644038:=0
def tw6297408002499224414:=0
end PySem.W.Fast
open PySem PySem.W PyProof.Rows
set_option maxRecDepth 100000 in
set_option maxHeartbeats 0 in
theorem PySem.Challenge.cw_momentloom_k44_forks_holds : PySem.Challenge.rw_momentloom_k44_forks.Holds := by
 w_on;o_law;k_head;(case hw=>w_witness2)
 k_fill
 refine My.walk (l:=OS) rfl rfl (fun w h Y=>PySem.W.kIn_of Y) ?F
 case F=>
  intro w mg fa h KX G hmg;refine' My.all_mk KX G hmg ?a1 ?a2 ?a3 ?a4 ?a5 ?a6 ?a7 ?a8 ?a9 ?a10 ?a11 ?a12 ?a13 ?a14 ?a15 ?a16 ?a17 ?a18 ?a19 ?a20 ?a21 ?a22 ?a23 ?a24 ?a25 ?a26 ?a27 ?a28 ?a29 ?a30 ?a31 ?a32 ?a33 ?a34 ?a35 ?a36 ?a37 ?a38 ?a39 ?a40 ?a41 ?a42 ?aCM ?a43 ?pCM ?nCMmachines ?aCS ?a44 ?a45 ?pCS ?nCSboxes ?nCSqueues ?nCSdrawn ?nCSsent ?aCD ?a46 ?a47 ?a48 ?a49 ?a50 ?pCD ?nCDmachine ?nCDhappening ?nCDstate ?nCDwritten ?nCDoutgoing ?nCDends ?nCDreckoned ?nCDqueued ?aCB ?a51 ?pCB ?nCBrecords ?nCBending ?nCBstates ?aCC ?a52 ?a53 ?a54 ?a55 ?pCC ?nCCmodel ?nCCstates ?nCCpending ?nCCreached ?nCCstopped ?aCK ?a56 ?a57 ?a58 ?a59 ?a60 ?pCK ?nCKmodel ?nCKsigns ?nCKevery ?nCKkept ?aCN ?xCN ?aCG ?xCG ?aCU ?xCU ?aCY ?xCY ?aCP ?xCP ?aCL ?xCL ?aCF ?xCF ?aCNm ?xCNm ?aCTl ?xCTl ?enn ?egn ?egg ?aCEr ?aCTx ?aCRm ?aCMd ?tNm ?vNm ?oNm ?sNm ?nNm ?xeNm ?XNm ?tTl ?vTl ?oTl ?sTl ?nTl ?xeTl ?XTl ?xfCN ?XN100 ?a100 ?xfCG ?XN101 ?a101 ?xfCU ?XN102 ?a102 ?xfCY ?XN103 ?a103 ?xfCP ?XN104 ?a104 ?xfCL ?XN105 ?a105 ?zlen ?zabs ?zisinstance ?zlist ?ztuple ?zstr ?zint ?zbool ?zrange ?zmax ?zdict ?zsorted ?zenumerate ?zmin ?zValueError
  case a1|a2|a3|a4|a5|a6|a7|a8|a9|a10|a11|a12|a13|a14|a15|a16|a17|a18|a19|a20|a21|a22|a23|a24|a25|a26|a27|a28|a29|a30|a31|a32|a33|a34|a35|a36|a37|a38|a39|a40|a41|a42=>
   refine' My.dn_i ?a ?l ?c ?k
   case a=>k_is
   case l=>k_is
   case c=>k_is
   case k=>k_is
  case aCM|aCS|aCD|aCB|aCC|aCK|aCN|aCG|aCU|aCY|aCP|aCL|aCF|aCNm|aCTl=>k_is
  case a43|a44|a45|a46|a47|a48|a49|a50|a51|a52|a53|a54|a55|a56|a57|a58|a59|a60=>
   refine' My.mn_i ?a ?i ?l ?c ?k
   case a=>k_is
   case i=>k_is
   case l=>k_is
   case c=>k_is
   case k=>k_is
  case pCM|pCS|pCD|pCB|pCC|pCK=>exact{{by k_is,by k_is,by k_is,by k_is},by k_is,by k_is}
  case nCMmachines|nCSboxes|nCSqueues|nCSdrawn|nCSsent|nCDmachine|nCDhappening|nCDstate|nCDwritten|nCDoutgoing|nCDends|nCDreckoned|nCDqueued|nCBrecords|nCBending|nCBstates|nCCmodel|nCCstates|nCCpending|nCCreached|nCCstopped|nCKmodel|nCKsigns|nCKevery|nCKkept|zlen|zabs|zisinstance|zlist|ztuple|zstr|zint|zbool|zrange|zmax|zdict|zsorted|zenumerate|zmin|zValueError=>k_is
  case xCN|xCG|xCU|xCY|xCP|xCL|xCF|xCNm|xCTl=>k_exc
  case enn|egn|egg=>kts_exm
  case aCEr|aCTx|aCRm|aCMd=>k_is
  case tNm|vNm|oNm|sNm|nNm|tTl|vTl|oTl|sTl|nTl=>kit_is
  case xeNm|xeTl|xfCN|xfCG|xfCU|xfCY|xfCP|xfCL=>kts_exm
  case XNm|XTl|XN100|XN101|XN102|XN103|XN104|XN105=>exact{by k_is,by k_is,by k_is,by k_is,by k_is,by k_is,by k_is}
  case a100|a101|a102|a103|a104|a105=>
   refine' My.mn_i ?a ?i ?l ?c ?k
   case a=>k_is
   case i=>k_is
   case l=>k_is
   case c=>k_is
   case k=>k_is

