import PyProof.Rows.All
import Wide.All
import OpenK.AllK
import Wide.FinOn
import Lean
import PyProof.EqAt
import PyProof.EqKinds
import PyProof.TupleCall
import KE.KDictOf
import PyProof.AttrMissSeq
import PyProof.DictCopy
import PyProof.NeKinds
import PyProof.DictWalks
import PyProof.MinMaxWalk
import PyProof.MeetsDictList
import PyProof.DictFindH
import PyProof.DictTruth
import KE.KRevSl
import PyProof.DictItems
import KE.KDictSum
import PyProof.Rows.SortStr
import PyProof.Rows.SortWalk
import PyProof.ExcArgsOwn
import PyProof.NsDelKeeps
import PyProof.EnumMake
import PyProof.EnumFor
import PyProof.EnumStmt
import PyProof.Rows.EnumRows
import PyProof.Rows.SortRev
import KE.KSortTup
import KE.KTab
import PySem.Challenge.RW_momentloom_k61_books_bent
open PySem renaming Addr->aa,Value->af,wpAny_bind->aq,Shared->ar,sizeLine->au,Paired->aI,Program->aL,wpAny_pure->aP,wpAny->aW,model->bJ,World->bN,mainGlobals->bP,Around->bZ,FuncData->cw,Heap->cF,boot_len->cG,starEach->cM,Expr->cZ,wpAny_holding->dD,Stmt->dJ,wpAny_loadPart'->dU,compareOp->dZ,cLine->d8,wpAny_mono->eN,sysModules->fj,eval->fy,bootBuiltins->gf,mem_of_lookup->gu,binaryOp->ij,assignEach->iC,wpAny_Call_Name_kw->iD,wpAny_passesOwn->iK,wpAny_truthy_bool->iW,Builtin->iX,wpAny_newObj_type->iY,backTo->jd,keywordEach->je,behindInMarks->jH,NameKind->kg,attributeBase->lC,Scope->lE,wpAny_field->lG,sliceBounds->lH,codeAny_mono->mE,getMethod->m9,backToKw->nC,foldedSetIterable->oI,sizeLine_eq->oJ,codeAny->oK,valueAt->oM,wpAny_dictEntries->oN,wpAny_forIn_list->qj,wpAny_call_entry->qm,holding->qB,wpAny_pyNext_list_item->qE,richCompare_meets_room->qG,call_meets->qI,wpAny_execs_nil->qS,letOwnedTupleGo->qT,codeAny_builtin->qU,wpAny_pyNext_list_end->q9,rawInt->sC,richCompare->sP,unbindBehindTheSuite->sV,swapsWith->tM,BindsTo->tP,getItem->tR,wpAny_standAt->uq,ExceptHandler->ux,wpAny_newList->uF,tupleKind_room_in1->uY,standAt->vK,wpAny_pyIter_list->vL,callerA->vQ,wpAny_pyIter_slot->vT,tupleKind->xk,assign->xo,call->xr,noFill_tuple_add->xA,IsPart->xB,stored->xI,subscripted->yt,Within->yE,leaving->zz,wpAny_richCompare_same_room->zE,callWith->zO,bindArgs->zS,wpAny_call->zU,wpAny_newFunctionEnv_cells->zW,atKey->z8,wpAny_setField->Aa,wpAny_rule->Ad,evalArgs_none->A9,seq_tuple_add->Cq,call->Cw,bindL->Dq,bindC->Dr,cellsFrom->Dt,wpAny_Call_method0_late->Dw,noteFrame->Dy,isTrue->DQ,concat_meets->Ep,wpAny_typeOf->Es,seqIndex_neg->Eu,call_meetsIn->EO,wpAny_isTrue_Compare1->He,codeAny_call_function->Hf,Model->Hm,Operator->Ho,rule->Hq,seqIndex_of->Hy,builtinsNs->Kr,wpAny_Name->Kt,Result->KG,typeLookup->KJ,CmpOp->MH,wpAny_assign_Name->MI,Keyword->MJ,slot_list_getitem->ML
open PySem.W renaming Frag->ae,findIn->aV,nsIn->cE,mg_none_of->cY,exmOne->dC,excIn->dO,mg_of->eJ,kia_one->eM,emptyDict->eU,fnOf->eW,keepIn->gB,kitOne->gC,instObj->gL,codeIn->jz,methodCall_KW->jM,looks_findIn->jZ,callWith_K->kO,katRev->kY,plainGet->mB,isFn->nA,cellsFrom_some->nF,hideAll->om,lookIn->oU,plainGet_of->qi,methodObj->qW,hasDictIn->rf,takerIn->ua,makesIn->uc,OpenLaw->uh,InstAt->uS,mroIn->vM,hideAll_get->zw,callWith_K0->zy,of_hideAll->zG,codeRec_of->zV,plainOver->A4,specialIn->A5,kitx_list->A6,kitx_dict->A7,handedIn->Cm,takesIn->Dp,exm_one->DH,typeIn->Ek,notCls->EW,WalkO->Hg,kas_rev->MV
open List renaming mem_cons_of_mem->ah,length_map->ai,getElem?_eq_getElem->aj,length_append->ax,mem_cons->ay,size_toArray->aB,getElem?_eq_some_iff->aC,mem_cons_self->aD,mem_singleton->aH,length_cons->aR,length_take->aT,not_mem_nil->aY,mem_append_right->bL,lookup_cons_self->bO,getElem?_map->bS,mem_append->bU,map_append->bV,mem_of_getElem?->bX,map_cons->cu,mem_map->cB,lookup_cons->cD,replicate->cH,length_drop->cN,nodup_cons->cO,getElem?_eq_none->cT,length_nil->cU,getElem?_append_right->c9,pairwise_iff_getElem->dA,append_nil->dE,getElem?_of_mem->dG,getD_eq_getElem?_getD->dP,take_length->dQ,map_map->eg,getElem?_set_self->fb,getElem?_append_left->fk,dropLast_subset->fZ,take_add_one->gm,length->gD,getElem_mem->gH,zip_cons_cons->gI,pairwise_cons->gJ,mem_append_left->gX,append_assoc->gY,pairwise_append->gZ,getElem_map->hW,range->ig,length_filter_le->iA,nodup_append->iI,mem_range->iT,getElem?_set_ne->iU,length_reverse->i9,map_congr_left->jc,find?_cons->jo,ext_getElem?->jN,nodup_nil->jO,pairwise_map->jP,length_replicate->j8,take_append_drop->kf,lookup->kr,length_dropLast->kx,nil_append->kK,drop_zero->lO,take_zero->lU,drop_eq_getElem_cons->mj,getElem?_replicate->oo,pairwise_singleton->oz,all_eq_true->oB,take_of_length_le->oO,of_mem_zip->oV,foldl_cons->o8,length_zip->pF,contains_iff_mem->p5,mem_of_mem_take->qA,filterMap_cons->qR,mem_map_of_mem->qV,map_take->rK,mem_filterMap->rX,map_inj_right->sf,take_sublist->tQ,toArray->tW,reverse_perm->tX,eraseIdxIfInBounds_toArray->ue,map_reverse->uH,getElem?_zip_eq_some->xQ,getLast?_eq_none_iff->x8,getElem?_take_of_lt->yp,any_cons->yu,map_drop->yA,sum_cons->yB,map_nil->zA,length_singleton->z7,dropLast_concat->BI,getLast?_concat->BK,length_pos_iff->De,zip_nil_right->Du,getElem?_drop->Dz,zip_nil_left->Eo,reverse_cons->EB,foldl_append->Ff,drop_length->Hh,cons_append->Hi,perm_middle->Hj,mem_filter->Hk,length_set->HA
open Nat renaming le_refl->aE,ne_of_lt->aN,zero_le->bH,lt_of_lt_of_le->bK,le_trans->dH,succ_pos->fJ,le_succ->gc,lt_irrefl->hU,lt_of_succ_lt_succ->ik,min_eq_left->iy,lt_of_le_of_lt->jA,lt_succ_of_lt->jS,not_lt_zero->kX,le_of_lt->lF,lt_or_ge->lK,ne_of_gt->oP,lt_trans->o6,succ_mul->pQ,mul_le_mul_right->qP,sub_self->um,lt_succ_self->uV,add_le_add_left->Dx,add_sub_cancel->ES,lt_or_gt_of_ne->EZ,le_add_right->IA
open PySem.Heap renaming get?_push_of_some->aJ,lt_size->aM,get?_push_size->cz,get?_update_other->fc,get?_push_ne->gj,size_update->gG,SameBut->oH,get?_update_self->pY,size_push->wx,get?_update_ne->CO,MadeExcOf->Jw
open PySem.Paired renaming length->aX,snoc->eS
open Bool renaming false_ne_true->cg,false_eq_true->jv,and_eq_true->oq,eq_iff_iff->oS,and_eq_true_iff->qy,noConfusion->uw,true_and->KU,and_true->Mh
open PySem.F renaming plainAttrs_list->cy,slot_list_append->cJ,type_list_append->cK,args_tuple_add_2->lZ,entry_tuple_add->mH,slot_tuple_add->nG,args_tuple_gt_2->wL,slot_dict_items->wN,entry_tuple_gt->xU,slot_tuple_gt->yv,slot_list_pop->yy,type_list_pop->yz
open Option.some renaming inj->cQ
open PySem.Obj renaming mapSeq->df,mapFields->rZ,data_mapFields->sR,isFreed_of_fields->Be
open PySem.PassesOwn renaming never->dy
open False renaming elim->dN
open PyProof.Rows renaming seqObj->dW,IntsAre->fv,slot_tuple_getitem->jh,callWith_type1->jU,AllBare->oG,IsTup->sh,envOfC->sO,listUpdate_at->uE,size_push'->ve,seqEpoch_at->yw,tuples'->zF,Constant_none->Ce,subscriptTail->Cr,sortedAll->DI,floordiv_int->Eg,subscriptTail_builtinR->Ey,call_function_entry_kw->EX,wpAny_call_entry_kw->JC,Subscript_->KL,args_list_sort_rev->K4
open List.cons renaming inj->dY,injEq->BJ
open Int renaming emod_lt_of_pos->fu,emod_nonneg->gv,toNat_natCast->ng,fdiv_eq_ediv_of_nonneg->xu
open PySem.Builtin.Int renaming intBits->fH
open Ne renaming symm->fV
open Array renaming length_toList->gs,perm_iff_toList_perm->iP,getElem?_eq_some_iff->lJ,getD->oE,getElem?_toList->zB,size_append->DJ,toList->Kx
open PySem.Builtin.Slice renaming slicePlaces->ir,sliceAdjust->kj,sliceApplied->rh
open Sum.inr renaming inj->iB
open PySem.Builtin.Tuple renaming tupleExact->iE,tupleCompareSizes->pV
open List.Perm renaming refl->jt
open PySem.Str renaming ofString->jR
open PySem.Builtin.List renaming listTooLong->kI,listFitsIndex->r6
open PySem.W.WData renaming weight->kW,weightAll->uZ
open Prod renaming ext_iff->lD
open PySem.AutoSeq1 renaming sub_tuple_tuple->lN,list_insert_list_int_val_1->MT
open Classical renaming choose_spec->oh,byContradiction->uC,choose->AR
open Option renaming map_eq_some_iff->oy,isSome_map->rY,getD_none->Dv,map_some->E4
open PySem.Calls renaming callWith_builtin->oC,Name_function_global->vJ,evalArgs_plain->z5
open Function renaming comp->qp
open PySem.Builtin.Dict renaming dictSlotArgs->sT,updateFrom->ug,pairItems->uz,samePairs->uB
open Sum.inl renaming inj->tL
open PyProof renaming noPylong_of_log2->vS
open And renaming imp->w9
open PySem.EntryCells renaming newEntry->xK
open PySem.Around renaming under->yo,under_plainId->zD
open PySem.SeqAt.EqAt renaming int_int->yq
open PySem.Code renaming isFrame->zx,quiet_builtin->DG
open PySem.Heap.DictOf renaming new->zC
open PySem.Txt renaming join->CQ
open PyProof.Rows.IsTup renaming new->Et
open PySem.Value renaming isStrOf->Jq,isInt->MG
open Std.Legacy.Range renaming forIn_eq_forIn_range'->Jx,size->Jy
open PySem.Challenge renaming rw_momentloom_k61_books_bent->MA
open PySem.Heap.IsSliceOf renaming new->MK
open PySem.W.WShape renaming has->MM
open PySem.Heap.UpToSlots renaming of_keeps->MP
open PyProof.Rows.SortSt renaming mk'->MU
-- CHANGE: your row's module here, as the last of these rows
set_option Elab.async false
set_option linter.all false
set_option maxRecDepth 100000
namespace L2
open PySem PySem.Spec PyProof.Rows
abbrev Key:=Sum Int Str
def vZ:Key->af->Bool
 | .inl k,v=>MG k v
 | .inr x,v=>Jq x v
def keyH (w:bN):Key->Int
 | .inl k=>hashInt k
 | .inr x=>hashStr w x
theorem gx:∀ {k:Key} {v:af},vZ k v=true->(∃ i t,k=Sum.inl i/\v=Value.int i t)\/(∃ x t,k=Sum.inr x/\v=Value.str x t)
 | .inl i,v,h=>by
  obtain ⟨t,e⟩:=Value.isInt_shape (k:=i) (v:=v) h;exact .inl ⟨i,t,rfl,e⟩
 | .inr x,v,h=>by
  obtain ⟨t,e⟩:=Value.isStrOf_shape (x:=x) (v:=v) h;exact .inr ⟨x,t,rfl,e⟩
theorem Cb (i:Int) (t:Tok):vZ (.inl i) (.int i t)=true:=by simp [vZ,MG]
theorem Cc (x:Str) (t:Tok):vZ (.inr x) (.str x t)=true:=by simp [vZ,Jq]
theorem Km (a b:Int):decide ((Sum.inl a:Key)=Sum.inl b)=(a == b):=by
 by_cases e:a=b
 ·subst e; simp
 ·have h:¬ (Sum.inl a:Key)=Sum.inl b:=fun q=>e (tL q);rw [decide_eq_false h];exact (beq_eq_false_iff_ne.mpr e).symm
theorem Kn (a b:Str):decide ((Sum.inr a:Key)=Sum.inr b)=decide (a=b):=by
 by_cases e:a=b
 ·subst e; simp
 ·have h:¬ (Sum.inr a:Key)=Sum.inr b:=fun q=>e (iB q);rw [decide_eq_false h,decide_eq_false e]
theorem Ko (a:Int) (b:Str):decide ((Sum.inl a:Key)=Sum.inr b)=false:=decide_eq_false (fun q=>nomatch q)
theorem Kq (a:Str) (b:Int):decide ((Sum.inr a:Key)=Sum.inl b)=false:=decide_eq_false (fun q=>nomatch q)
def fK (prog:aL) (w:bN):PySem.KeyKind prog w Key where
 is:=vZ
 hash:=keyH w
 inj:=fun v a b ha hb=>by
  rcases gx ha with ⟨i,t,rfl,rfl⟩ | ⟨x,t,rfl,rfl⟩
  ·rcases gx hb with ⟨j,u,rfl,e⟩ | ⟨y,u,rfl,e⟩
   ·injection e with e1 _; rw [e1]
   ·exact nomatch e
  ·rcases gx hb with ⟨j,u,rfl,e⟩ | ⟨y,u,rfl,e⟩
   ·exact nomatch e
   ·injection e with e1 _; rw [e1]
 byValue:=fun k v h=>by
  rcases gx h with ⟨i,t,rfl,rfl⟩ | ⟨x,t,rfl,rfl⟩ <;> rfl
 pyHash:=fun hv h=>by
  rcases gx hv with ⟨i,t,rfl,rfl⟩ | ⟨x,t,rfl,rfl⟩
  ·exact wpAny_pyHash_int h
  ·exact wpAny_pyHash_str h
 eqBool:=fun hu hv h=>by
  rcases gx hu with ⟨i,t,rfl,rfl⟩ | ⟨x,t,rfl,rfl⟩
  ·rcases gx hv with ⟨j,u,rfl,rfl⟩ | ⟨y,u,rfl,rfl⟩
   ·rw [Km] at h; exact wpAny_eqBool_int h
   ·rw [Ko] at h; exact SeqAt.EqAt.int_str i t y u _ _ _ _ h
  ·rcases gx hv with ⟨j,u,rfl,rfl⟩ | ⟨y,u,rfl,rfl⟩
   ·rw [Kq] at h; exact SeqAt.EqAt.str_int x t j u _ _ _ _ h
   ·rw [Kn] at h; exact wpAny_eqBool_str h
 «strs»:=fun k x t v h=>by
  rcases gx h with ⟨i,u,rfl,e⟩ | ⟨y,u,rfl,e⟩
  ·exact nomatch e
  ·injection e with e1 _;subst e1
   cases v <;> rfl
theorem yC (prog:aL) (w:bN) (i:Int) (t:Tok):(fK prog w).is (.inl i) (.int i t)=true:=Cb i t
theorem yD (prog:aL) (w:bN) (x:Str) (t:Tok):(fK prog w).is (.inr x) (.str x t)=true:=Cc x t
inductive V where
 | non | bl (b:Bool) | int (i:Int) | str (x:Str) | byt (b:Array UInt8) | flt (b:UInt64) | ref (a:aa) | ty (n:String)
 deriving DecidableEq
def RelV:V->af->Prop
 | .non,u=>u=Value.none
 | .bl b,u=>u=Value.bool b
 | .int i,u=>∃ t,u=Value.int i t
 | .str x,u=>∃ t,u=Value.str x t
 | .byt b,u=>∃ t,u=Value.bytes b t
 | .flt b,u=>∃ t,u=Value.float b t
 | .ref a,u=>u=Value.ref a
 | .ty n,u=>u=Value.type n
abbrev cX:List V->List af->Prop:=aI RelV
theorem cX.length {xs:List V} {us:List af} (r:cX xs us):xs.length=us.length:=aX r
theorem cX.get:∀ {xs:List V} {us:List af} {i:Nat} {x:V},cX xs us->xs[i]?=some x->∃ u,us[i]?=some u/\RelV x u
 | _,_,_,_,.nil,e=>by simp at e
 | _,_,0,_,.cons r _,e=>by simp at e; subst e; exact ⟨_,rfl,r⟩
 | _,_,i + 1,x,.cons _ t,e=>by
  obtain ⟨u,h1,h2⟩:=cX.get (i:=i) (x:=x) t (by simpa using e);exact ⟨u,by simpa using h1,h2⟩
theorem cX.set {x:V} {u:af} (r:RelV x u):∀ {xs:List V} {us:List af} (i:Nat),cX xs us->cX (xs.set i x) (us.set i u)
 | _,_,_,.nil=>.nil
 | _,_,0,.cons _ t=>.cons r t
 | _,_,i + 1,.cons q t=>.cons q (cX.set r i t)
theorem cX.append:∀ {xs ys:List V} {us ws:List af},cX xs us->cX ys ws->cX (xs++ys) (us++ws)
 | _,_,_,_,.nil,s=>s
 | _,_,_,_,.cons r t,s=>.cons r (cX.append t s)
theorem cX.take:∀ {xs:List V} {us:List af} (n:Nat),cX xs us->cX (xs.take n) (us.take n)
 | _,_,0,_=>.nil
 | _,_,_ + 1,.nil=>.nil
 | _,_,n + 1,.cons r t=>.cons r (cX.take n t)
theorem cX.drop:∀ {xs:List V} {us:List af} (n:Nat),cX xs us->cX (xs.drop n) (us.drop n)
 | _,_,0,r=>r
 | _,_,_ + 1,.nil=>.nil
 | _,_,n + 1,.cons _ t=>cX.drop n t
def qh:Option V->Option af->Prop
 | some v,some u=>RelV v u
 | none,none=>True
 | _,_=>False
def KV {κ:Type}:List (κ×V)->List (κ×af)->Prop:=aI fun (p:κ×V) (q:κ×af)=>p.1=q.1/\RelV p.2 q.2
def kV:Key->V
 | .inl i=>.int i
 | .inr x=>.str x
inductive HO where
 /-- a list -/
 | lst (xs:List V)
 /-- a tuple (never changes) -/
 | tup (xs:List V)
 /-- a dict whose keys are ints and texts; one whose keys are tuples of ints and texts (the empty one is both) -/
 | dK (kvs:List (Key×V)) | dT (kvs:List (List Key×V))
 /-- a set of ints: its members, its size -/
 | set (S:Int->Bool) (n:Nat)
 /-- an instance of the class at C, its dict at dx, its attributes -/
 | ins (C dx:aa) (fs:List (Str×V))
 /-- the dict of the instance at x -/
 | own (x:aa)
 /-- the dict of an exception -/
 | xd (fs:List (Str×V))
 /-- a bound method, f of x -/
 | met (f x:aa)
 /-- a range object lo, lo + 1, .. below hi -/
 | rng (lo hi:Int)
 /-- a thing that is known to the object (the script; a dict while a loop walks it): read, never written while it is so -/
 | frz (o:Obj) (u:HO)
 /-- a code object's table -/
 | tbl (ps:Array af)
 /-- any other thing, by what is true of its one object (a def of one's own: SetO a S n := HO.ext fun h => ..) -/
 | ext (φ:cF->Prop)
abbrev Hp:=aa->Option HO
def upd (H:Hp) (a:aa) (o:HO):Hp:=fun b=>if b=a then some o else H b
theorem ag {H:Hp} {a:aa} {o:HO}:upd H a o a=some o:=by unfold upd; rw [if_pos rfl]
theorem aK {H:Hp} {a b:aa} {o:HO} (h:b≠a):upd H a o b=H b:=by unfold upd; rw [if_neg h]
theorem AZ {H:Hp} {a:aa} {o u:HO}:upd (upd H a o) a u=upd H a u:=by
 funext b; unfold upd; split <;> rfl
theorem mr {H:Hp} {a b:aa} {o u:HO} (h:H a=some o) (h':H b=some u) (d:o≠u):a≠b:=by
 intro e; subst e; rw [h] at h'; exact d (cQ h')
theorem aG {H:Hp} {a b:aa} {o:HO} (h:H a=some o) (h':H b=none):a≠b:=by
 intro e; subst e; rw [h] at h'; cases h'
section
variable (P:aL) (w:bN)
def eE (H:Hp) (h:cF) (a:aa):HO->Prop
 | .lst xs=>xs.length<=au/\∃ (its:List af) (n:Nat),cX xs its/\h.get? a=some {cls:=.type "list",data:=.seq its.toArray n}
 | .tup xs=>xs.length<=au/\∃ its:List af,cX xs its/\sh h a its.toArray
 | .dK kvs=>kvs.length<=au/\(a == fj)=false/\∃ vs,KV kvs vs/\h.DictOf (fK P w) a vs
 | .dT kvs=>kvs.length<=au/\(a == fj)=false/\∃ xs:List (List Key×aa×af),
   aI (fun (p:List Key×V) (q:List Key×aa×af)=>p.1=q.1/\H q.2.1=some (.tup (p.1.map kV))/\RelV p.2 q.2.2) kvs xs /\
   ∃ o es ep,h.get? a=some o/\o.ExactDict/\o.data=.dict es ep/\es.toList=xs.map (entryOfKey (xk (fK P w)))/\(xs.map (·.1)).Nodup
 | .set S n=>h.SetOf (intKind P w) a S n
 | .ins C dx fs=>H dx=some (.own a)/\fs.length<=1000/\dx≠a/\h.get? a=some (gL C dx) /\
   ∃ mA,h.Ns1 dx mA/\(∀ f,qh (fs.lookup f) (mA f))/\yE mA (fs.map (·.1))
 | .own _=>∃ o,h.get? a=some o
 | .xd fs=>∃ mA,h.Ns1 a mA/\∀ f,qh (fs.lookup f) (mA f)
 | .rng lo hi=>∃ t u v,h.get? a=some {cls:=.type "range",data:=.fields #[.int lo t,.int hi u,.int 1 v]}
 | .frz o u=>h.get? a=some o/\eE H h a u
 | .tbl ps=>h.get? a=some {cls:=.none,data:=.fields ps}
 | .met f x=>h.get? a=some (qW (.ref f) (.ref x))
 | .ext φ=>φ h/\(∃ o,h.get? a=some o)/\∀ h1 h2:cF,φ h1->(∀ o,h1.get? a=some o->h2.get? a=some o)->φ h2
def HOk (H:Hp) (h:cF):Prop:=∀ a o,H a=some o->eE P w H h a o
end
section
variable {P:aL} {w:bN} {H H':Hp} {h h':cF} {a:aa} {o:HO}
theorem eE.lt (x:eE P w H h a o):a < h.objs.size:=by
 cases o with
 | lst xs=>obtain ⟨_,_,_,_,e⟩:=x; exact aM e
 | tup xs=>obtain ⟨_,_,_,p⟩:=x; exact p.lt
 | dK kvs=>obtain ⟨_,_,_,_,o,_,_,e,_⟩:=x; exact aM e
 | dT kvs=>obtain ⟨_,_,_,_,o,_,_,e,_⟩:=x; exact aM e
 | set S n=>obtain ⟨o,_,_,_,e,_⟩:=x; exact aM e
 | ins C dx fs=>obtain ⟨_,_,_,e,_⟩:=x; exact aM e
 | own y=>obtain ⟨_,e⟩:=x; exact aM e
 | xd fs=>obtain ⟨_,⟨_,_,_,e,_⟩,_⟩:=x; exact aM e
 | rng lo hi=>obtain ⟨_,_,_,e⟩:=x; exact aM e
 | frz ob u=>obtain ⟨e,_⟩:=x; exact aM e
 | tbl ps=>exact aM (show h.get? a=some _ from x)
 | met f y=>exact aM (show h.get? a=some _ from x)
 | ext φ=>obtain ⟨_,⟨_,e⟩,_⟩:=x; exact aM e
theorem Paired.mapP {α β:Type} {F G:α->β->Prop}:∀ {l₁:List α} {l₂:List β},aI F l₁ l₂->(∀ a b,F a b->G a b)->aI G l₁ l₂
 | _,_,.nil,_=>.nil
 | _,_,.cons r t,f=>.cons (f _ _ r) (Paired.mapP t f)
theorem Paired.imp' {α β:Type} {F G:α->β->Prop} (f:∀ a b,F a b->G a b) {l₁:List α} {l₂:List β} (r:aI F l₁ l₂):aI G l₁ l₂:=Paired.mapP r f
theorem eE.stay (x:eE P w H h a o) (k:∀ b u,(b=a\/H b=some (.own a))->h.get? b=some u->h'.get? b=some u)
  (ho:∀ b,H b=some (.own a)->H' b=some (.own a)) (ht:∀ b xs,H b=some (.tup xs)->H' b=some (.tup xs)):eE P w H' h' a o:=by
 induction o with
 | lst xs=>obtain ⟨z,its,n,r,e⟩:=x; exact ⟨z,its,n,r,k _ _ (.inl rfl) e⟩
 | tup xs=>obtain ⟨z,its,r,ob,e,c⟩:=x; exact ⟨z,its,r,ob,k _ _ (.inl rfl) e,c⟩
 | dK kvs=>obtain ⟨z,y,vs,r,ob,es,ep,e,c⟩:=x; exact ⟨z,y,vs,r,ob,es,ep,k _ _ (.inl rfl) e,c⟩
 | dT kvs =>
  obtain ⟨z,y,xs,r,ob,es,ep,e,c⟩:=x;exact ⟨z,y,xs,Paired.mapP r fun p q z=>⟨z.1,ht _ _ z.2.1,z.2.2⟩,ob,es,ep,k _ _ (.inl rfl) e,c⟩
 | set S n=>obtain ⟨ob,es,ep,t,e,c⟩:=x; exact ⟨ob,es,ep,t,k _ _ (.inl rfl) e,c⟩
 | ins C dx fs =>
  obtain ⟨d,z,ne,e,mA,⟨od,es,ep,e2,c⟩,r⟩:=x;exact ⟨ho _ d,z,ne,k _ _ (.inl rfl) e,mA,⟨od,es,ep,k _ _ (.inr d) e2,c⟩,r⟩
 | own y=>obtain ⟨ob,e⟩:=x; exact ⟨ob,k _ _ (.inl rfl) e⟩
 | xd fs=>obtain ⟨mA,⟨od,es,ep,e,c⟩,r⟩:=x; exact ⟨mA,⟨od,es,ep,k _ _ (.inl rfl) e,c⟩,r⟩
 | rng lo hi=>obtain ⟨t,u,v,e⟩:=x; exact ⟨t,u,v,k _ _ (.inl rfl) e⟩
 | frz ob u ih=>obtain ⟨e,q⟩:=x; exact ⟨k _ _ (.inl rfl) e,ih q⟩
 | tbl ps =>
  have e:h.get? a=some {cls:=.none,data:=.fields ps}:=x;show h'.get? a=some {cls:=.none,data:=.fields ps};exact k a _ (.inl rfl) e
 | met f y =>
  have e:h.get? a=some (qW (.ref f) (.ref y)):=x;show h'.get? a=some (qW (.ref f) (.ref y));exact k a _ (.inl rfl) e
 | ext φ=>obtain ⟨p,⟨o,e⟩,st⟩:=x; exact ⟨st _ _ p fun o q=>k _ _ (.inl rfl) q,⟨o,k _ _ (.inl rfl) e⟩,st⟩
theorem HOk.lt (x:HOk P w H h) (e:H a=some o):a < h.objs.size:=(x a o e).lt
theorem HOk.fresh (x:HOk P w H h) (e:h.objs.size<=a):H a=none:=by
 cases q:H a with
 | none=>rfl
 | some u=>exact absurd (bK (x.lt q) e) (hU _)
theorem HOk.kept (x:HOk P w H h) (k:∀ b u,h.get? b=some u->h'.get? b=some u):HOk P w H h':=fun a o e =>
 (x a o e).stay (fun b u _ q=>k b u q) (fun _ q=>q) fun _ _ q=>q
theorem HOk.laid (x:HOk P w H h) (k:∀ b u,h.get? b=some u->h'.get? b=some u) (hp:h.objs.size<=a) (new:eE P w (upd H a o) h' a o):HOk P w (upd H a o) h':=fun b u e=>by
 have hn:=x.fresh hp
 by_cases hb:b=a
 ·subst hb; rw [ag] at e; cases e; exact new
 ·rw [aK hb] at e;exact (x b u e).stay (fun c v _ q=>k c v q) (fun c q=>by rw [aK (aG q hn)]; exact q) fun c xs q=>by rw [aK (aG q hn)]; exact q
end
def Rd (H:Hp) (a:aa) (u:HO):Prop:=H a=some u\/∃ o,H a=some (.frz o u)
theorem Rd.ok {P:aL} {w:bN} {H:Hp} {h:cF} {a:aa} {u:HO} (r:Rd H a u) (x:HOk P w H h):eE P w H h a u:=by
 rcases r with r | ⟨o,r⟩
 ·exact x a u r
 ·obtain ⟨_,q⟩:=x a _ r;exact q
def Mut:Option HO->Prop
 | some (.lst _)=>True
 | some (.dK _)=>True
 | some (.dT _)=>True
 | some (.set _ _)=>True
 | some (.ins _ _ _)=>True
 | some (.ext _)=>True
 | _=>False
section
variable {P:aL} {w:bN} {H:Hp} {h h':cF} {x e:aa} {o':HO}
theorem HOk.write (ok:HOk P w H h) (mu:Mut (H x)) (he:e=x\/H e=some (.own x)) (k:∀ b u,b≠e->h.get? b=some u->h'.get? b=some u) (heo:∃ u,h'.get? e=some u)
  (new:eE P w (upd H x o') h' x o'):HOk P w (upd H x o') h':=fun b u q=>by
 have nown:∀ c y,H c=some (.own y)->c≠x:=fun c y r z=>by subst z; rw [r] at mu; exact mu
 have ntup:∀ c xs,H c=some (.tup xs)->c≠x:=fun c xs r z=>by subst z; rw [r] at mu; exact mu
 by_cases hb:b=x
 ·subst hb; rw [ag] at q; cases q; exact new
 ·rw [aK hb] at q
  by_cases hbe:b=e
  ·have q':H b=some (.own x):=by
    rcases he with z | z
    ·exact absurd (hbe.trans z) hb
    ·rw [hbe]; exact z
   rw [q] at q'; cases q';obtain ⟨v,hv⟩:=heo;exact ⟨v,by rw [hbe]; exact hv⟩
  ·refine (ok b u q).stay (fun c v hc r=>k c v ?_ r) (fun c r=>by rw [aK (nown c b r)]; exact r) fun c xs r=>by rw [aK (ntup c xs r)]; exact r
   rcases hc with rfl | hc
   ·exact hbe
   ·rintro rfl
    rcases he with z | z
    ·exact nown c b hc z
    ·rw [hc] at z; cases z; exact hb rfl
end
structure Un (fs ex:List aa) (H H':Hp) (h h':cF):Prop where
 keep:∀ b o,h.get? b=some o->H b=none->b∉fs->b∉ex->h'.get? b=some o
 slot:∀ b o,h.get? b=some o->H b=none->b∈fs->b∉ex->∃ sl,h'.get? b=some {o with slots:=sl}
 free:∀ b o,h.get? b=some o->H b=none->b∉ex->H' b=none
 there:∀ b o,h.get? b=some o->b∉ex->∃ o',h'.get? b=some o'
 tups:∀ b xs,H b=some (.tup xs)->H' b=some (.tup xs)
 frzs:∀ b o u,H b=some (.frz o u)->H' b=some (.frz o u)
 tbls:∀ b ps,H b=some (.tbl ps)->∃ more,H' b=some (.tbl (ps++more))
section
variable {fs fs' ex ex':List aa} {H H1 H2:Hp} {h h1 h2 h':cF} {a x e:aa} {o:HO}
theorem Un.any (u:Un fs ex H H1 h h1) {b:aa} {ob:Obj} (q:h.get? b=some ob) (n:H b=none) (hx:b∉ex):∃ sl,h1.get? b=some {ob with slots:=sl}:=by
 by_cases hb:b∈fs
 ·exact u.slot b ob q n hb hx
 ·exact ⟨ob.slots,u.keep b ob q n hb hx⟩
theorem Un.kept (k:∀ b u,h.get? b=some u->h'.get? b=some u):Un fs ex H H h h':=
 ⟨fun b ob q _ _ _=>k b ob q,fun b ob q _ _ _=>⟨ob.slots,k b ob q⟩,fun _ _ _ n _=>n,fun b ob q _=>⟨ob,k b ob q⟩,fun _ _ q=>q,fun _ _ _ q=>q,fun _ ps q=>⟨#[],by rw [q]; simp⟩⟩
theorem Un.refl:Un fs ex H H h h:=Un.kept fun _ _ q=>q
theorem Un.laid (k:∀ b u,h.get? b=some u->h'.get? b=some u) (hp:h.objs.size<=a) (hn:H a=none):Un fs ex H (upd H a o) h h' where
 keep:=fun b u q _ _ _=>k b u q
 slot:=fun b u q _ _ _=>⟨u.slots,k b u q⟩
 free:=fun b u q n _=>by rw [aK (aN (bK (aM q) hp))]; exact n
 there:=fun b u q _=>⟨u,k b u q⟩
 tups:=fun b xs q=>by rw [aK (aG q hn)]; exact q
 frzs:=fun b u xs q=>by rw [aK (aG q hn)]; exact q
 tbls:=fun b ps q=>⟨#[],by rw [aK (aG q hn),q]; simp⟩
theorem Un.write (mu:Mut (H x)) (he:e=x\/H e=some (.own x)) (k:∀ b u,b≠e->h.get? b=some u->h'.get? b=some u) (heo:∃ u,h'.get? e=some u):Un fs ex H (upd H x o) h h':=by
 have hx:∀ b,H b=none->b≠x:=fun b n z=>by subst z; rw [n] at mu; exact mu
 have hb:∀ b,H b=none->b≠e:=fun b n z=>by
  subst z
  rcases he with r | r
  ·exact hx b n r
  ·rw [n] at r; cases r
 have hm:∀ b u,H b=some u->¬ Mut (some u)->b≠x:=fun b u q nm z=>by subst z; rw [q] at mu; exact nm mu
 refine ⟨fun b u q n _ _=>k b u (hb b n) q,fun b u q n _ _=>⟨u.slots,k b u (hb b n) q⟩,fun b u q n _=>by rw [aK (hx b n)]; exact n,fun b u q _=>?_,
  fun b xs q=>by rw [aK (hm b _ q fun z=>z)]; exact q,fun b u xs q=>by rw [aK (hm b _ q fun z=>z)]; exact q,fun b ps q=>⟨#[],by rw [aK (hm b _ q fun z=>z),q]; simp⟩⟩
 by_cases hbe:b=e
 ·subst hbe; exact heo
 ·exact ⟨u,k b u hbe q⟩
end
def trk (h:cF) (H:Hp):List aa:=(ig h.objs.size).filter fun a=>(H a).isSome
def xl (h:cF) (H:Hp):cF:=om h (trk h H)
theorem Cd (h:cF) (H:Hp):(xl h H).objs.size=h.objs.size:=PySem.W.hideAll_size _ _
theorem DK {h:cF} {H:Hp} {b:aa} {o:Obj} (e:h.get? b=some o) (n:H b=none):(xl h H).get? b=some o:=
 zw _ e fun hm=>by
  have q:(H b).isSome=true:=(Hk.mp hm).2;rw [n] at q; simp at q
theorem Hl {h:cF} {H:Hp} {b:aa} {o:Obj} (e:(xl h H).get? b=some o):h.get? b=some o/\H b=none:=by
 have e':h.get? b=some o:=zG (trk h H) e;refine ⟨e',?_⟩
 cases q:H b with
 | none=>rfl
 | some x =>
  have hm:b∈trk h H:=Hk.mpr ⟨iT.mpr (aM e'),by simp [q]⟩;have z:(xl h H).get? b=none:=PySem.W.hideAll_none (trk h H) hm;rw [z] at e; cases e
structure Mod (K:ae) (mg:Str->Option af) (base:cF):Prop where
 kin:K.In base
 glob:base.Ns bP mg
 blt:∃ mb,base.Ns Kr mb/\∀ x:Str,x≠"__name__"->mb x=gf x
 nolimit:base.NoLimit
structure Cx where
 prog:aL
 w:bN
 K:ae
 mg:Str->Option af
 base:cF
 A:bZ
 N:List Str
 s₀:ar
 H₀:Hp
 env:Env
 outer:List Env
 stack:List Env
 ex:List aa
 fn:Str->Bool
 calm:Bool
 pn:List (aa×Obj)
 xe:af->ar->Prop
def frs (l:List Env):List aa:=l.filterMap (·.frame)
abbrev Cx.fs (X:Cx):List aa:=frs X.outer
def Vis (sc:lE) (x:Str):Prop:=sc.names.lookup x=some .local\/sc.names.lookup x=some .cell\/sc.names.lookup x=some .free
def Loc (sc:lE) (x:Str):Prop:=sc.names.lookup x=some .local\/sc.names.lookup x=some .cell
def Look (env:Env) (h:cF) (m:Str->Option af) (x:Str) (u:af):Prop:=
 (env.kindOf x=some .local/\m x=some u)\/((env.kindOf x=some .cell\/env.kindOf x=some .free)/\∃ c,env.cells.lookup x=some c/\h.IsCell c (some u))
structure Cx.Ok (X:Cx):Prop where
 mod:Mod X.K X.mg X.base
 kind:X.env.scope.kind=.function
 glob:X.env.globals=bP
 blt:X.env.builtins=Kr
 above:X.s₀.heap.objs.size<=X.env.locals
 inj:∀ x y c,X.env.cells.lookup x=some c->X.env.cells.lookup y=some c->x=y
 has:∀ x,(X.env.kindOf x=some .cell\/X.env.kindOf x=some .free)->∃ c,X.env.cells.lookup x=some c
 cab:∀ x c,X.fn x=true->X.env.cells.lookup x=some c->X.s₀.heap.objs.size<=c
 hd:X.calm=true->X.A.handled=none
 frames:X.A.frames=some X.stack
 stk:X.stack=X.outer\/(X.stack=X.env :: X.outer/\X.env.frame=some X.env.locals)
 exf:∀ b∈X.ex,b≠X.env.locals/\∀ x c,X.env.cells.lookup x=some c->c≠b
 bs:∀ b o,X.base.get? b=some o->X.s₀.heap.get? b=some o/\X.H₀ b=none
 bsz:X.base.objs.size<=X.s₀.heap.objs.size
 noex:∀ b o,X.base.get? b=some o->b∉X.ex
 exfs:∀ b∈X.ex,b∉X.fs
 funs:X.s₀.heap.FunFrames X.base X.outer
 frf:∀ b∈X.fs,X.H₀ b=none
structure Inv (X:Cx) (pins:List (aa×Obj)) (σ:List (Option V)) (H:Hp) (s:ar):Prop where
 ok:X.Ok
 os:s.os=X.s₀.os
 bare:oG s.gens
 base:Un X.fs X.ex X.H₀ H X.s₀.heap s.heap
 loc:∃ m,s.heap.Ns X.env.locals m/\∀ (i:Nat) (x:Str) (v:V),X.N[i]?=some x->σ[i]?=some (some v)->Vis X.env.scope x->∃ u,RelV v u/\Look X.env s.heap m x u
 cell:∀ x c,X.env.cells.lookup x=some c->∃ v,s.heap.IsCell c v
 free:H X.env.locals=none
 freeC:∀ x c,X.env.cells.lookup x=some c->H c=none
 pin:∀ p∈X.pn++pins,s.heap.get? p.1=some p.2/\H p.1=none/\p.1≠X.env.locals/\p.1∉X.fs/\∀ v,p.2.data≠.cell v
 hok:HOk X.prog X.w H s.heap
 len:σ.length=X.N.length
section
variable {X:Cx} {pins:List (aa×Obj)} {σ:List (Option V)} {H H':Hp} {s:ar} {h':cF}
theorem Cx.Ok.nofr (ok:X.Ok) {b:aa} {o:Obj} (e:X.base.get? b=some o):b∉X.fs:=fun hb=>by
 have:=(ok.funs.mem hb).1;rw [e] at this; cases this
theorem Inv.bs (I:Inv X pins σ H s):∀ b o,X.base.get? b=some o->s.heap.get? b=some o/\H b=none:=fun b o e =>
 ⟨I.base.keep b o (I.ok.bs b o e).1 (I.ok.bs b o e).2 (I.ok.nofr e) (I.ok.noex b o e),I.base.free b o (I.ok.bs b o e).1 (I.ok.bs b o e).2 (I.ok.noex b o e)⟩
theorem Inv.bk (I:Inv X pins σ H s):∀ b o,X.base.get? b=some o->s.heap.get? b=some o:=fun b o e=>(I.bs b o e).1
theorem Inv.mod (I:Inv X pins σ H s):Mod X.K X.mg X.base:=I.ok.mod
theorem Inv.kIn (I:Inv X pins σ H s):X.K.In s.heap:=I.ok.mod.kin.keeps I.bk
theorem Inv.fr (I:Inv X pins σ H s):∃ m,Fr X.base X.env.locals s.heap m:=
 let ⟨m,hn,_⟩:=I.loc
 ⟨m,hn,I.bk,dH I.ok.bsz I.ok.above⟩
theorem Inv.lt (I:Inv X pins σ H s):X.env.locals < s.heap.objs.size:=let ⟨_,hn,_⟩:=I.loc; hn.lt
theorem Inv.sz (I:Inv X pins σ H s):X.s₀.heap.objs.size<=s.heap.objs.size:=dH I.ok.above (lF I.lt)
theorem Inv.nofs (I:Inv X pins σ H s) {a:aa} (h:s.heap.objs.size<=a):a∉X.fs:=fun hb=>by
 obtain ⟨_,o,ho,_⟩:=I.ok.funs.mem hb;exact absurd (bK (aM ho) (dH I.sz h)) (hU _)
theorem Inv.cne (I:Inv X pins σ H s):∀ x c,X.env.cells.lookup x=some c->c≠X.env.locals:=fun x c e z=>by
 obtain ⟨v,o,ho,hd⟩:=I.cell x c e;obtain ⟨m,⟨o',es,ep,ho',hd',_⟩,_⟩:=I.loc;rw [z,ho'] at ho; cases ho; rw [hd'] at hd; cases hd
theorem Inv.funs (I:Inv X pins σ H s):s.heap.FunFrames X.base X.outer:=by
 have all:∀ (l:List Env),(∀ b∈frs l,b∈X.fs)->X.s₀.heap.FunFrames X.base l->s.heap.FunFrames X.base l:=by
  intro l
  induction l with
  | nil=>intro _ _; trivial
  | cons env r ih =>
   intro hs hl;obtain ⟨hk,⟨L,o,hf,hn,ho,hd⟩,hr⟩:=hl;have hL:L∈X.fs:=hs L (by unfold frs; rw [qR,hf]; exact aD);obtain ⟨sl,e⟩:=I.base.slot L o ho (I.ok.frf L hL) hL fun z=>I.ok.exfs L z hL;exact ⟨hk,⟨L,_,hf,hn,e,hd⟩,ih (fun b hb=>hs b (by unfold frs; rw [qR,hf]; exact ah _ hb)) hr⟩
 exact all X.outer (fun _ hb=>hb) I.ok.funs
theorem Inv.stack (I:Inv X pins σ H s):s.heap.FunFrames X.base X.stack:=by
 rcases I.ok.stk with e | ⟨e,hf⟩
 ·rw [e]; exact I.funs
 ·rw [e];obtain ⟨m,hn,_⟩:=I.loc;refine .cons (by rw [I.ok.kind]; decide) hf hn ?_ I.funs;exact Heap.get?_none_of_le (dH I.ok.bsz I.ok.above)
theorem Inv.stkSub (I:Inv X pins σ H s):∀ b∈frs X.stack,b∈X.env.locals :: X.fs:=fun b hb=>by
 rcases I.ok.stk with e | ⟨e,hf⟩
 ·rw [e] at hb; exact ah _ hb
 ·rw [e] at hb;unfold frs at hb;rw [qR,hf] at hb;exact hb
theorem Inv.stkFree (I:Inv X pins σ H s):∀ b∈frs X.stack,H b=none:=fun b hb=>by
 rcases ay.mp (I.stkSub b hb) with e | hb
 ·rw [e]; exact I.free
 ·obtain ⟨_,o,ho,_⟩:=I.ok.funs.mem hb;exact I.base.free b o ho (I.ok.frf b hb) fun z=>I.ok.exfs b z hb
theorem Inv.step {g':Array GenState} {t':Nat} {d':Drawn} {ch:List aa} (I:Inv X pins σ H s)
  (hch:∀ b∈ch,(b∈X.ex\/X.s₀.heap.objs.size<=b)/\b≠X.env.locals/\(∀ x c,X.env.cells.lookup x=some c->c≠b)/\∀ p∈X.pn++pins,p.1≠b)
  (keep:∀ b o,b≠X.env.locals->b∉X.fs->b∉ch->s.heap.get? b=some o->H b=none->h'.get? b=some o)
  (slot:∀ b o,b≠X.env.locals->b∈X.fs->b∉ch->s.heap.get? b=some o->H b=none->∃ sl,h'.get? b=some {o with slots:=sl}) (free:∀ b o,b∉ch->s.heap.get? b=some o->H b=none->H' b=none)
  (there:∀ b o,b∉ch->s.heap.get? b=some o->∃ o',h'.get? b=some o')
  (tups:∀ b xs,H b=some (.tup xs)->H' b=some (.tup xs)) (frzs:∀ b o u,H b=some (.frz o u)->H' b=some (.frz o u)) (tbls:∀ b ps,H b=some (.tbl ps)->∃ more,H' b=some (.tbl (ps++more)))
  (ns:∀ m,s.heap.Ns X.env.locals m->h'.Ns X.env.locals m) (hok:HOk X.prog X.w H' h') (hg:oG g') :
  Inv X pins σ H' {s with heap:=h',gens:=g',drawn:=d',toks:=t'}:=by
 have neL:∀ b o,X.s₀.heap.get? b=some o->b≠X.env.locals:=fun b o e=>aN (bK (aM e) I.ok.above);have neC:∀ b o,X.s₀.heap.get? b=some o->b∉X.ex->b∉ch:=fun b o e hx hb=>by
  rcases (hch b hb).1 with z | z
  ·exact hx z
  ·exact absurd (bK (aM e) z) (hU _)
 have cellK:∀ x c,X.env.cells.lookup x=some c->∀ v,s.heap.IsCell c v->h'.IsCell c v:=fun x c e v ⟨o,ho,hd⟩=>by
  have nch:c∉ch:=fun z=>(hch c z).2.2.1 x c e rfl
  by_cases hc:c∈X.fs
  ·obtain ⟨sl,q⟩:=slot c o (I.cne x c e) hc nch ho (I.freeC x c e);exact ⟨_,q,hd⟩
  ·exact ⟨o,keep c o (I.cne x c e) hc nch ho (I.freeC x c e),hd⟩
 refine ⟨I.ok,I.os,hg,⟨fun b o e n hb hx=>?_,fun b o e n hb hx=>?_,fun b o e n hx=>?_,fun b o e hx=>?_,fun b xs e=>tups b xs (I.base.tups b xs e),fun b o xs e=>frzs b o xs (I.base.frzs b o xs e),fun b ps e=>?_⟩,?_,fun x c e=>?_,?_,fun x c e=>?_,fun p hp=>?_,hok,I.len⟩
 ·exact keep b o (neL b o e) hb (neC b o e hx) (I.base.keep b o e n hb hx) (I.base.free b o e n hx)
 ·obtain ⟨sl,e1⟩:=I.base.slot b o e n hb hx;obtain ⟨sl',e2⟩:=slot b _ (neL b o e) hb (neC b o e hx) e1 (I.base.free b o e n hx);exact ⟨sl',e2⟩
 ·obtain ⟨o',e1⟩:=I.base.there b o e hx;exact free b o' (neC b o e hx) e1 (I.base.free b o e n hx)
 ·obtain ⟨o',e1⟩:=I.base.there b o e hx;exact there b o' (neC b o e hx) e1
 ·obtain ⟨m1,e1⟩:=I.base.tbls b ps e;obtain ⟨m2,e2⟩:=tbls b _ e1;exact ⟨m1++m2,by rw [e2,Array.append_assoc]⟩
 ·obtain ⟨m,hn,hl⟩:=I.loc;refine ⟨m,ns m hn,fun i x v e1 e2 e3=>?_⟩;obtain ⟨u,r,l⟩:=hl i x v e1 e2 e3;refine ⟨u,r,?_⟩
  rcases l with l | ⟨k,c,e,z⟩
  ·exact .inl l
  ·exact .inr ⟨k,c,e,cellK x c e _ z⟩
 ·obtain ⟨v,z⟩:=I.cell x c e;exact ⟨v,cellK x c e v z⟩
 ·obtain ⟨m,⟨o,_,_,ho,_⟩,_⟩:=I.loc;exact free _ o (fun z=>(hch _ z).2.1 rfl) ho I.free
 ·obtain ⟨v,o,ho,hd⟩:=I.cell x c e;exact free c o (fun z=>(hch c z).2.2.1 x c e rfl) ho (I.freeC x c e)
 ·obtain ⟨e,n,ne,nf,d⟩:=I.pin p hp;have nch:p.1∉ch:=fun z=>(hch p.1 z).2.2.2 p hp rfl;exact ⟨keep p.1 p.2 ne nf nch e n,free p.1 p.2 nch e n,ne,nf,d⟩
theorem Inv.un {t':Nat} (I:Inv X pins σ H s) (u:Un X.fs [] H H' s.heap h') (hok:HOk X.prog X.w H' h'):Inv X pins σ H' {s with heap:=h',toks:=t'}:=by
 obtain ⟨m,⟨o,es,ep,ho,r⟩,_⟩:=id I.loc;obtain ⟨sl,hL⟩:=u.any ho I.free (by simp);exact I.step (g':=s.gens) (d':=s.drawn) (ch:=[]) (fun _ z=>nomatch z) (fun b o _ hb _ e n=>u.keep b o e n hb (by simp)) (fun b o _ hb _ e n=>u.slot b o e n hb (by simp)) (fun b o _ e n=>u.free b o e n (by simp)) (fun b o _ e=>u.there b o e (by simp)) u.tups u.frzs u.tbls (fun m' hm=>by
  obtain ⟨o',es',ep',ho',r'⟩:=hm;rw [ho] at ho'; cases ho';exact ⟨_,es',ep',hL,r'⟩) hok I.bare
theorem Inv.call {g':Array GenState} {t':Nat} {d':Drawn} {ch:List aa} (I:Inv X pins σ H s) (u:Un (frs X.stack) ch H H' s.heap h') (hok:HOk X.prog X.w H' h') (hg:oG g')
  (hch:∀ b∈ch,(b∈X.ex\/X.s₀.heap.objs.size<=b)/\b≠X.env.locals/\(∀ x c,X.env.cells.lookup x=some c->c≠b)/\∀ p∈X.pn++pins,p.1≠b) :
  Inv X pins σ H' {s with heap:=h',gens:=g',drawn:=d',toks:=t'}:=by
 obtain ⟨m,⟨o,es,ep,ho,r⟩,_⟩:=id I.loc;obtain ⟨sl,hL⟩:=u.any ho I.free fun z=>(hch _ z).2.1 rfl;exact I.step (ch:=ch) hch (fun b o hL hb hc e n=>u.keep b o e n (fun z=>(ay.mp (I.stkSub b z)).elim hL hb) hc) (fun b o _ _ hc e n=>u.any e n hc) (fun b o hc e n=>u.free b o e n hc) (fun b o hc e=>u.there b o e hc) u.tups u.frzs u.tbls (fun m' hm=>by
  obtain ⟨o',es',ep',ho',r'⟩:=hm;rw [ho] at ho'; cases ho';exact ⟨_,es',ep',hL,r'⟩) hok hg
theorem Inv.turned {t':Nat} {it:aa} (I:Inv X pins σ H s) (k:∀ b o,b≠it->s.heap.get? b=some o->h'.get? b=some o) (hn:H it=none) (hL:it≠X.env.locals)
  (h1:it∈X.ex\/X.s₀.heap.objs.size<=it) (h2:∀ x c,X.env.cells.lookup x=some c->c≠it) (h3:∀ p∈X.pn++pins,p.1≠it):Inv X pins σ H {s with heap:=h',toks:=t'}:=by
 have nit:∀ b u,H b=some u->b≠it:=fun b u e z=>by rw [z,hn] at e; cases e
 refine I.step (g':=s.gens) (d':=s.drawn) (ch:=[it]) (fun b hb=>?_) (fun b o _ _ hc e _=>k b o (fun z=>hc (by simp [z])) e) (fun b o _ _ hc e _=>⟨o.slots,k b o (fun z=>hc (by simp [z])) e⟩) (fun _ _ _ _ n=>n)
  (fun b o hc e=>⟨o,k b o (fun z=>hc (by simp [z])) e⟩) (fun _ _ e=>e) (fun _ _ _ e=>e) (fun b ps e=>⟨#[],by rw [e]; simp⟩) (fun m hm=>?_) (fun b u e=>?_) I.bare
 ·have e:b=it:=by simpa using hb
  subst e;exact ⟨h1,hL,h2,h3⟩
 ·obtain ⟨o,es,ep,ho,r⟩:=hm;exact ⟨o,es,ep,k _ o (fV hL) ho,r⟩
 ·refine (I.hok b u e).stay (fun c v hc q=>k c v ?_ q) (fun _ q=>q) fun _ _ q=>q
  rcases hc with z | z
  ·rw [z]; exact nit b u e
  ·exact nit c _ z
theorem Inv.tok (I:Inv X pins σ H s) (t:Nat):Inv X pins σ H {s with toks:=t}:=I.un (h':=s.heap) (t':=t) Un.refl I.hok
theorem Inv.kept {t':Nat} (I:Inv X pins σ H s) (k:∀ b u,s.heap.get? b=some u->h'.get? b=some u):Inv X pins σ H {s with heap:=h',toks:=t'}:=I.un (Un.kept k) (I.hok.kept k)
theorem Inv.laid {a:aa} {o:HO} {t':Nat} (I:Inv X pins σ H s) (k:∀ b u,s.heap.get? b=some u->h'.get? b=some u) (hp:s.heap.objs.size<=a) (new:eE X.prog X.w (upd H a o) h' a o) :
  Inv X pins σ (upd H a o) {s with heap:=h',toks:=t'}:=I.un (Un.laid k hp (I.hok.fresh hp)) (I.hok.laid k hp new)
theorem Inv.write {x e:aa} {o:HO} {t':Nat} (I:Inv X pins σ H s) (mu:Mut (H x)) (he:e=x\/H e=some (.own x)) (k:∀ b u,b≠e->s.heap.get? b=some u->h'.get? b=some u) (heo:∃ u,h'.get? e=some u)
  (new:eE X.prog X.w (upd H x o) h' x o):Inv X pins σ (upd H x o) {s with heap:=h',toks:=t'}:=I.un (Un.write mu he k heo) (I.hok.write mu he k heo new)
theorem Inv.weak {σ':List (Option V)} (I:Inv X pins σ H s) (hl:σ'.length=σ.length) (w:∀ (i:Nat) v,σ'[i]?=some (some v)->σ[i]?=some (some v)):Inv X pins σ' H s:=
 ⟨I.ok,I.os,I.bare,I.base,let ⟨m,hn,hl'⟩:=I.loc; ⟨m,hn,fun i x v e1 e2 e3=>hl' i x v e1 (w i v e2) e3⟩,I.cell,I.free,I.freeC,I.pin,I.hok,hl.trans I.len⟩
theorem Inv.pins_of {pins':List (aa×Obj)} (I:Inv X pins σ H s) (h:∀ p∈pins',s.heap.get? p.1=some p.2/\H p.1=none/\p.1≠X.env.locals/\p.1∉X.fs/\∀ v,p.2.data≠.cell v):Inv X pins' σ H s:=
 ⟨I.ok,I.os,I.bare,I.base,I.loc,I.cell,I.free,I.freeC,fun p hp=>(bU.mp hp).elim (fun z=>I.pin p (gX _ z)) (h p),I.hok,I.len⟩
theorem uN {N:List Str} (hN:N.Nodup) {i j:Nat} {x:Str} (a:N[i]?=some x) (b:N[j]?=some x):i=j:=by
 obtain ⟨h1,e1⟩:=aC.mp a;obtain ⟨h2,e2⟩:=aC.mp b;exact (List.getElem_inj hN).mp (e1.trans e2.symm)
theorem v9 {M:Hm} {A:bZ} {E:af->ar->Prop} {i:Nat} {x:Str} {v:V} {u:af} {Q:Unit->ar->Prop} (I:Inv X pins σ H s) (hN:X.N.Nodup) (hi:X.N[i]?=some x) (hx:Loc X.env.scope x) (r:RelV v u)
  (h:∀ s',Inv X pins (σ.set i (some v)) H s'->(∃ a,oH a s.heap s'.heap/\(a=X.env.locals\/X.env.cells.lookup x=some a))->Q () s') (hf:X.fn x=true\/X.env.scope.names.lookup x=some .local:=by first | exact .inl rfl | exact .inr rfl | assumption):aW M A (storeName X.env x u) Q E s:=by
 obtain ⟨m,hn,hl⟩:=id I.loc;have hcls:(X.env.scope.kind == .class || (X.env.scope.kind == .module && X.env.locals != X.env.globals))=false:=by rw [I.ok.kind]; rfl
 have hiσ:i < σ.length:=by rw [I.len]; exact (aC.mp hi).1
 have cne:=I.cne;have tracked:∀ {a:aa} {h':cF},(∃ o,s.heap.get? a=some o/\H a=none)->oH a s.heap h'->HOk X.prog X.w H h':=fun {a h'} ha hs b ob e=>by
  obtain ⟨_,_,hfree⟩:=ha;refine (I.hok b ob e).stay (fun c w' hc q=>(hs.2 c ?_).trans q) (fun _ q=>q) fun _ _ q=>q;rintro rfl
  rcases hc with rfl | hc
  ·rw [hfree] at e; cases e
  ·rw [hfree] at hc; cases hc
 rcases hx with hk | hk
 ·refine wpAny_storeName_local hk hn (fun h' hn' hs=>?_) hcls;obtain ⟨oL,_,_,hoL,_⟩:=id hn;refine h _ ⟨I.ok,I.os,I.bare,⟨fun b o e n hb hx=>?_,fun b o e n hb hx=>?_,I.base.free,fun b o e hx=>?_,I.base.tups,I.base.frzs,I.base.tbls⟩,⟨_,hn',fun j y v' e1 e2 e3=>?_⟩,fun y c e=>?_,I.free,I.freeC,fun p hp=>?_,tracked ⟨oL,hoL,I.free⟩ hs,by simpa using I.len⟩ ⟨_,hs,.inl rfl⟩
  ·exact (hs.2 b (aN (bK (aM e) I.ok.above))).trans (I.base.keep b o e n hb hx)
  ·obtain ⟨sl,e1⟩:=I.base.slot b o e n hb hx;exact ⟨sl,(hs.2 b (aN (bK (aM e) I.ok.above))).trans e1⟩
  ·obtain ⟨o',e1⟩:=I.base.there b o e hx;exact ⟨o',(hs.2 b (aN (bK (aM e) I.ok.above))).trans e1⟩
  ·by_cases hj:j=i
   ·subst hj;rw [hi] at e1; cases e1;rw [fb hiσ] at e2
    cases e2;exact ⟨u,r,.inl ⟨hk,by simp⟩⟩
   ·rw [iU (fV hj)] at e2;obtain ⟨u',r',q⟩:=hl j y v' e1 e2 e3;refine ⟨u',r',?_⟩
    rcases q with ⟨k,e⟩ | ⟨k,c,e,z⟩
    ·refine .inl ⟨k,?_⟩;have:y≠x:=fun e=>hj (uN hN e1 (e ▸ hi));simp [this,e]
    ·exact .inr ⟨k,c,e,z.sameBut hs (cne y c e)⟩
  ·obtain ⟨w',z⟩:=I.cell y c e;exact ⟨w',z.sameBut hs (cne y c e)⟩
  ·obtain ⟨e,n,ne,nf,d⟩:=I.pin p hp;exact ⟨(hs.2 p.1 ne).trans e,n,ne,nf,d⟩
 ·have hfn:X.fn x=true:=by
   rcases hf with z | z
   ·exact z
   ·rw [z] at hk; cases hk
  obtain ⟨c,hc⟩:=I.ok.has x (.inl hk);obtain ⟨w',z⟩:=I.cell x c hc;refine wpAny_storeName_cell I.ok.kind hk hc z (fun h' hc' hs=>?_);obtain ⟨oc,hoc,hocd⟩:=id z;refine h {s with heap:=h'} ⟨I.ok,I.os,I.bare,⟨fun b o e n hb hx=>?_,fun b o e n hb hx=>?_,I.base.free,fun b o e hx=>?_,I.base.tups,I.base.frzs,I.base.tbls⟩,⟨m,hn.sameBut hs (fV (cne x c hc)),fun j y v' e1 e2 e3=>?_⟩,fun y c' e=>?_,I.free,I.freeC,fun p hp=>?_,tracked ⟨oc,hoc,I.freeC x c hc⟩ hs,by simpa using I.len⟩ ⟨c,hs,.inr hc⟩
  ·exact (hs.2 b (aN (bK (aM e) (I.ok.cab x c hfn hc)))).trans (I.base.keep b o e n hb hx)
  ·obtain ⟨sl,e1⟩:=I.base.slot b o e n hb hx;exact ⟨sl,(hs.2 b (aN (bK (aM e) (I.ok.cab x c hfn hc)))).trans e1⟩
  ·obtain ⟨o',e1⟩:=I.base.there b o e hx;exact ⟨o',(hs.2 b (aN (bK (aM e) (I.ok.cab x c hfn hc)))).trans e1⟩
  ·by_cases hj:j=i
   ·subst hj;rw [hi] at e1; cases e1;rw [fb hiσ] at e2
    cases e2;exact ⟨u,r,.inr ⟨.inl hk,c,hc,hc'⟩⟩
   ·rw [iU (fV hj)] at e2;obtain ⟨u',r',q⟩:=hl j y v' e1 e2 e3;refine ⟨u',r',?_⟩
    rcases q with q | ⟨k,c',e,z'⟩
    ·exact .inl q
    ·refine .inr ⟨k,c',e,z'.sameBut hs ?_⟩;rintro rfl;exact hj (uN hN e1 (I.ok.inj _ _ _ e hc ▸ hi))
  ·by_cases hcc:c'=c
   ·subst hcc; exact ⟨_,hc'⟩
   ·obtain ⟨w2,z2⟩:=I.cell y c' e;exact ⟨w2,z2.sameBut hs hcc⟩
  ·obtain ⟨e,n,ne,nf,d⟩:=I.pin p hp;refine ⟨(hs.2 p.1 ?_).trans e,n,ne,nf,d⟩;intro q;rw [q,hoc] at e;have q':oc=p.2:=cQ e;exact d w' (by rw [<- q']; exact hocd)
theorem qX {M:Hm} {A:bZ} {E:af->ar->Prop} {i:Nat} {x:Str} {v:V} {u:af} {Q:Unit->ar->Prop} (I:Inv X pins σ H s) (hN:X.N.Nodup) (hi:X.N[i]?=some x) (hx:Loc X.env.scope x) (r:RelV v u)
  (h:∀ s',Inv X pins (σ.set i (some v)) H s'->Q () s') (hf:X.fn x=true\/X.env.scope.names.lookup x=some .local:=by first | exact .inl rfl | exact .inr rfl | assumption):aW M A (storeName X.env x u) Q E s:=
 v9 I hN hi hx r (fun s' I' _=>h s' I') hf
theorem Inv.call' {s':ar} {ch:List aa} (I:Inv X pins σ H s) (ho:s'.os=s.os) (u:Un (frs X.stack) ch H H' s.heap s'.heap) (hok:HOk X.prog X.w H' s'.heap) (hg:oG s'.gens)
  (hch:∀ b∈ch,(b∈X.ex\/X.s₀.heap.objs.size<=b)/\b≠X.env.locals/\(∀ x c,X.env.cells.lookup x=some c->c≠b)/\∀ p∈X.pn++pins,p.1≠b):Inv X pins σ H' s':=by
 obtain ⟨h',g',d',t',o'⟩:=s';have e:o'=s.os:=ho;subst e;exact I.call (g':=g') (t':=t') (d':=d') u hok hg hch
end
abbrev XK:=af->Option aa->Hp->Prop
abbrev St:=List (Option V)
abbrev VK:=V->Hp->Prop
abbrev TE:=St->Hp->VK->Prop
abbrev TT:=St->Hp->(Bool->Hp->Prop)->Prop
abbrev TA:=St->Hp->(List V->Hp->Prop)->Prop
structure kL where
 nx:St->Hp->Prop
 rt:VK
 bk:St->Hp->Prop:=fun _ _=>False
 ct:St->Hp->Prop:=fun _ _=>False
abbrev TS:=kL->St->Hp->Prop
def EP (X:Cx) (pins:List (aa×Obj)) (σ:St) (Q:VK) (u:af) (s':ar):Prop:=∃ v H',Inv X pins σ H' s'/\RelV v u/\Q v H'
def TP (X:Cx) (pins:List (aa×Obj)) (σ:St) (Q:Bool->Hp->Prop) (b:Bool) (s':ar):Prop:=∃ H',Inv X pins σ H' s'/\Q b H'
def AP (X:Cx) (pins:List (aa×Obj)) (σ:St) (Q:List V->Hp->Prop) (us:List af) (s':ar):Prop:=∃ vs H',Inv X pins σ H' s'/\cX vs us/\Q vs H'
def SP (X:Cx) (pins:List (aa×Obj)) (D:kL) (f:Flow) (s':ar):Prop:=
 match f with
 | .next=>∃ σ' H',Inv X pins σ' H' s'/\D.nx σ' H'
 | .brk=>∃ σ' H',Inv X pins σ' H' s'/\D.bk σ' H'
 | .cont=>∃ σ' H',Inv X pins σ' H' s'/\D.ct σ' H'
 | .ret u=>∃ v σ' H',Inv X pins σ' H' s'/\RelV v u/\D.rt v H'
def PE (X:Cx) (e:cZ) (t:TE):Prop:=
 ∀ (pins:List (aa×Obj)) (s:ar) (σ:St) (H:Hp) (Q:VK),Inv X pins σ H s->t σ H Q->aW (bJ X.prog X.w) X.A (fy e X.env) (EP X pins σ Q) X.xe s
def PT (X:Cx) (e:cZ) (t:TT):Prop:=
 ∀ (pins:List (aa×Obj)) (s:ar) (σ:St) (H:Hp) (Q:Bool->Hp->Prop),Inv X pins σ H s->t σ H Q->aW (bJ X.prog X.w) X.A (DQ e X.env (fy e X.env)) (TP X pins σ Q) X.xe s
def PW (X:Cx) (e:cZ) (t:TT):Prop:=
 ∀ (whole:Sem af) (pins:List (aa×Obj)) (s:ar) (σ:St) (H:Hp) (Q:Bool->Hp->Prop),Inv X pins σ H s->t σ H Q->aW (bJ X.prog X.w) X.A (DQ e X.env whole) (TP X pins σ Q) X.xe s
theorem PW.pt {X:Cx} {e:cZ} {t:TT} (h:PW X e t):PT X e t:=h _
def PA (X:Cx) (es:List cZ) (t:TA):Prop:=
 ∀ (pos:Pos) (pins:List (aa×Obj)) (s:ar) (σ:St) (H:Hp) (Q:List V->Hp->Prop),Inv X pins σ H s->t σ H Q->aW (bJ X.prog X.w) X.A (spliced (jd pos (cM es X.env))) (AP X pins σ Q) X.xe s
def PS (X:Cx) (st:dJ) (t:TS):Prop:=
 ∀ (pins:List (aa×Obj)) (s:ar) (σ:St) (H:Hp) (D:kL),Inv X pins σ H s->t D σ H->aW (bJ X.prog X.w) X.A (exec st X.env) (SP X pins D) X.xe s
def PSs (X:Cx) (st:List dJ) (t:TS):Prop:=
 ∀ (pins:List (aa×Obj)) (s:ar) (σ:St) (H:Hp) (D:kL),Inv X pins σ H s->t D σ H->aW (bJ X.prog X.w) X.A (execs st X.env) (SP X pins D) X.xe s
theorem thn {α:Type} {t:Sem α} {Q Q':α->ar->Prop} {M:Hm} {A:bZ} {E:af->ar->Prop} {s:ar} (h:aW M A t Q E s) (hQ:∀ a s,Q a s->Q' a s):aW M A t Q' E s:=eN h hQ fun _ _ x=>x
section
variable {X:Cx}
theorem bin {a b:cZ} {ta tb:TE} (ha:PE X a ta) (hb:PE X b tb) {pins:List (aa×Obj)} {s:ar} {σ:St} {H:Hp} {R:V->V->Hp->Prop} (I:Inv X pins σ H s) (h:ta σ H fun x H1=>tb σ H1 fun y H2=>R x y H2)
  {α:Type} {Q:α->ar->Prop} {f:af->af->Sem α}
  (hf:∀ v u s2 x y H2,Inv X pins σ H2 s2->RelV x v->RelV y u->R x y H2->aW (bJ X.prog X.w) X.A (f v u) Q X.xe s2) :
  aW (bJ X.prog X.w) X.A (fy a X.env) (fun v s₁=>aW (bJ X.prog X.w) X.A (fy b X.env) (fun u s₂=>aW (bJ X.prog X.w) X.A (f v u) Q X.xe s₂) X.xe s₁) X.xe s:=by
 refine thn (ha pins s σ H _ I h) fun v s1 ⟨x,H1,I1,r1,q1⟩=>?_;refine thn (hb pins s1 σ H1 _ I1 q1) fun u s2 ⟨y,H2,I2,r2,q2⟩=>?_;exact hf v u s2 x y H2 I2 r1 r2 q2
set_option genSizeOf false
set_option genInjectivity false
inductive TVar (i:Nat) (σ:St) (H:Hp) (Q:VK):Prop where
 | mk (v:V) (h:σ[i]?=some (some v)) (q:Q v H):TVar i σ H Q
def xm (i:Nat):TE:=fun σ H Q=>TVar i σ H Q
def tC (v:V):TE:=fun _ H Q=>Q v H
theorem Ks {i:Nat} {x:Str} {pos:Pos} (hN:X.N[i]?=some x) (hv:Vis X.env.scope x) (hd:(x == ("__debug__":Str))=false:=by decide) (hcd:(x == ("__classdict__":Str))=false:=by decide):PE X (.Name x pos) (xm i):=by
 intro pins s σ H Q I h;obtain ⟨v,e,h⟩:=h;obtain ⟨m,hn,hl⟩:=I.loc;obtain ⟨u,r,l⟩:=hl i x v hN e hv;have fin:EP X pins σ Q u s:=⟨v,H,I,r,h⟩
 rcases l with ⟨hk,hm⟩ | ⟨hk,c,hc,hcell⟩
 ·exact Kt (wpAny_loadName_local I.ok.kind hk hn hm fin) hd
 ·rcases hk with hk | hk
  ·exact Kt (wpAny_loadName_cell I.ok.kind hk hc hcell fin) hd
  ·exact Kt (wpAny_loadName_free I.ok.kind hk hc hcell fin hcd) hd
theorem aw {i j pos}:PE X (.Constant (.int i) j pos) (tC (.int i)):=fun _ _ _ H _ I h=>wpAny_Constant_int ⟨.int i,H,I.tok _,⟨_,rfl⟩,h⟩
theorem ko {b j pos}:PE X (.Constant (.bool b) j pos) (tC (.bl b)):=fun _ _ _ H _ I h=>Constant_bool ⟨.bl b,H,I,rfl,h⟩
theorem xn {j pos}:PE X (.Constant .none j pos) (tC .non):=fun _ _ _ H _ I h=>Ce ⟨.non,H,I,rfl,h⟩
theorem cA {x j pos}:PE X (.Constant (.str x) j pos) (tC (.str x)):=fun _ _ _ H _ I h=>Calls.Constant_str ⟨.str x,H,I.tok _,⟨_,rfl⟩,h⟩
def Gl (X:Cx) (x:Str):Prop:=X.env.kindOf x=some .globalImplicit
theorem qY {E:af->ar->Prop} {pins:List (aa×Obj)} {s:ar} {σ:St} {H:Hp} {x:Str} {u:af} {pos:Pos} {Q:af->ar->Prop} (I:Inv X pins σ H s) (hg:Gl X x) (hm:X.mg x=some u) (h:Q u s)
  (hd:(x == ("__debug__":Str))=false:=by decide):aW (bJ X.prog X.w) X.A (fy (.Name x pos) X.env) Q E s:=
 vJ I.ok.kind hg (Calls.loadGlobal_global (by rw [I.ok.glob]; exact I.mod.glob.keeps I.bk) hm h) hd
theorem sj {E:af->ar->Prop} {pins:List (aa×Obj)} {s:ar} {σ:St} {H:Hp} {x:Str} {u:af} {pos:Pos} {Q:af->ar->Prop} (I:Inv X pins σ H s) (hg:Gl X x) (hm:X.mg x=none) (hv:gf x=some u) (h:Q u s)
  (hn:x≠"__name__":=by decide) (hd:(x == ("__debug__":Str))=false:=by decide):aW (bJ X.prog X.w) X.A (fy (.Name x pos) X.env) Q E s:=by
 obtain ⟨mb,h1,h2⟩:=I.mod.blt;exact vJ I.ok.kind hg (Calls.loadGlobal_builtin (by rw [I.ok.glob]; exact I.mod.glob.keeps I.bk) hm (by rw [I.ok.blt]; exact h1.keeps I.bk) ((h2 x hn).trans hv) h) hd
theorem qZ {x:Str} {v:V} {u:af} {pos:Pos} (hg:Gl X x) (hm:X.mg x=none) (hv:gf x=some u) (r:RelV v u) (hn:x≠"__name__":=by decide) (hd:(x == ("__debug__":Str))=false:=by decide):PE X (.Name x pos) (tC v):=
 fun _ _ _ H _ I h=>sj I hg hm hv ⟨v,H,I,r,h⟩ hn hd
variable {a b:cZ} {ta tb:TE} {pos:Pos}
def PC (X:Cx) (op:MH) (a b:cZ) (t:TE):Prop:=
 ∀ (pins:List (aa×Obj)) (s:ar) (σ:St) (H:Hp) (Q:VK),Inv X pins σ H s->t σ H Q ->
  aW (bJ X.prog X.w) X.A (fy a X.env) (fun v s₁=>aW (bJ X.prog X.w) X.A (fy b X.env) (fun u s₂=>aW (bJ X.prog X.w) X.A (dZ op v u) (EP X pins σ Q) X.xe s₂) X.xe s₁) X.xe s
theorem DV (b:cZ) {op:MH} (h:op≠.In) (h2:op≠.NotIn):jH op b=false:=by
 have e1:(op == CmpOp.In)=false:=by cases op <;> first | rfl | exact absurd rfl h
 have e2:(op == CmpOp.NotIn)=false:=by cases op <;> first | rfl | exact absurd rfl h2
 cases b <;> simp [jH,e1,e2]
def tIsN (ta:TE):TE:=fun σ H Q=>ta σ H fun x H1=>Q (.bl (decide (x=.non))) H1
def tNotN (ta:TE):TE:=fun σ H Q=>ta σ H fun x H1=>Q (.bl (!decide (x=.non))) H1
theorem RelV.none_iff {x:V} {v:af} (r:RelV x v):(v == Value.none)=decide (x=.non):=by
 cases x with
 | non=>cases r; rfl
 | bl _=>cases r; rfl
 | int _=>obtain ⟨t,rfl⟩:=r; rfl
 | str _=>obtain ⟨t,rfl⟩:=r; rfl
 | byt _=>obtain ⟨t,rfl⟩:=r; rfl
 | flt _=>obtain ⟨t,rfl⟩:=r; rfl
 | ref _=>cases r; rfl
 | ty _=>cases r; rfl
theorem Ku {j pos'} (ha:PE X a ta):PC X .Is a (.Constant .none j pos') (tIsN ta):=by
 intro pins s σ H Q I h;refine thn (ha pins s σ H _ I h) fun v s1 ⟨x,H1,I1,r1,q1⟩=>?_;exact Ce (is_none_gen ⟨.bl _,H1,I1,by rw [r1.none_iff]; rfl,q1⟩)
theorem A0 {j pos'} (ha:PE X a ta):PC X .IsNot a (.Constant .none j pos') (tNotN ta):=by
 intro pins s σ H Q I h;refine thn (ha pins s σ H _ I h) fun v s1 ⟨x,H1,I1,r1,q1⟩=>?_;exact Ce (isnot_none_gen ⟨.bl _,H1,I1,by rw [r1.none_iff]; rfl,q1⟩)
inductive BlI (x:V) (H:Hp) (Q:Bool->Hp->Prop):Prop where
 | mk (c:Bool) (h:x=.bl c) (q:Q c H):BlI x H Q
def tB (t:TE):TT:=fun σ H Q=>t σ H fun x H1=>BlI x H1 Q
theorem uO {op:MH} {t:TE} (h:PC X op a b t) (h1:jH op b=false:=by first | exact DV _ (by decide) (by decide) | rfl):PT X (.Compare a [op] [b] pos) (tB t):=by
 intro pins s σ H Q I hw;refine He (thn (h pins s σ H _ I hw) fun v s1 h1=>thn h1 fun u s2 h2=>thn h2 fun c s3 ⟨x,H1,I1,r1,q1⟩=>?_) h1;obtain ⟨d,rfl,q⟩:=q1
 cases r1;exact iW ⟨H1,I1,q⟩
theorem sy {e:cZ} {t:TE} (h:PE X e t) (he:∀ whole,DQ e X.env whole=(do let v <- whole; vK e.pos; qB [v] (truthy v)):=by intro _; rfl):PT X e (tB t):=by
 intro pins s σ H Q I hw;refine isTrue_plain (thn (h pins s σ H _ I hw) fun v s1 ⟨x,H1,I1,r1,q1⟩=>?_) (he _);obtain ⟨d,rfl,q⟩:=q1
 cases r1;exact iW ⟨H1,I1,q⟩
variable {tA tB':TT} {rest:List cZ}
def tAnd (t u:TT):TT:=fun σ H Q=>t σ H fun c H1=>if c=true then u σ H1 Q else Q false H1
def tOr (t u:TT):TT:=fun σ H Q=>t σ H fun c H1=>if c=true then Q true H1 else u σ H1 Q
def tNot (t:TT):TT:=fun σ H Q=>t σ H fun c H1=>Q (!c) H1
theorem nh (ha:PT X a tA):PW X (.BoolOp .And [a] pos) tA:=by
 intro wh pins s σ H Q I h;refine isTrue_and (thn (ha pins s σ H Q I h) fun c s1 e=>?_)
 cases c with
 | true=>exact isTrue_and_nil e
 | false=>exact e
theorem zH (ha:PT X a tA):PW X (.BoolOp .Or [a] pos) tA:=by
 intro wh pins s σ H Q I h;refine isTrue_or (thn (ha pins s σ H Q I h) fun c s1 e=>?_)
 cases c with
 | false=>exact isTrue_or_nil e
 | true=>exact e
theorem qC (ha:PT X a tA) (hb:PW X (.BoolOp .And (b :: rest) pos) tB'):PW X (.BoolOp .And (a :: b :: rest) pos) (tAnd tA tB'):=by
 intro wh pins s σ H Q I h;refine isTrue_and (thn (ha pins s σ H _ I h) fun c s1 ⟨H1,I1,q1⟩=>?_)
 cases c with
 | true=>exact hb wh pins s1 σ H1 Q I1 q1
 | false=>exact ⟨H1,I1,q1⟩
theorem DX (ha:PT X a tA) (hb:PW X (.BoolOp .Or (b :: rest) pos) tB'):PW X (.BoolOp .Or (a :: b :: rest) pos) (tOr tA tB'):=by
 intro wh pins s σ H Q I h;refine isTrue_or (thn (ha pins s σ H _ I h) fun c s1 ⟨H1,I1,q1⟩=>?_)
 cases c with
 | true=>exact ⟨H1,I1,q1⟩
 | false=>exact hb wh pins s1 σ H1 Q I1 q1
theorem DY (ha:PT X a tA):PT X (.UnaryOp .Not a pos) (tNot tA):=by
 intro pins s σ H Q I h;exact isTrue_not (ha pins s σ H (fun c H1=>Q (!c) H1) I h)
def tAndV (ta tb:TE):TE:=fun σ H Q=>ta σ H fun x H1=>∃ c,x=.bl c/\if c=true then tb σ H1 Q else Q (.bl false) H1
theorem Kv {op} {t:TE} (h:PE X a t):PE X (.BoolOp op [a] pos) t:=fun pins s σ H Q I hw=>BoolOp_one (h pins s σ H Q I hw)
theorem Kw (ha:PE X a ta) (hb:PE X (.BoolOp .And (b :: rest) pos) tb):PE X (.BoolOp .And (a :: b :: rest) pos) (tAndV ta tb):=by
 intro pins s σ H Q I h;refine BoolOp_and (thn (ha pins s σ H _ I h) fun v s1 ⟨x,H1,I1,r1,q1⟩=>?_);obtain ⟨c,rfl,q1⟩:=q1
 cases r1;refine iW ?_
 cases c with
 | true=>exact hb pins s1 σ H1 Q I1 q1
 | false=>exact ⟨.bl false,H1,I1,rfl,q1⟩
def tIf (t:TT) (ta tb:TE):TE:=fun σ H Q=>t σ H fun c H1=>if c=true then ta σ H1 Q else tb σ H1 Q
theorem q8 {c:cZ} (hc:PT X c tA) (ha:PE X a ta) (hb:PE X b tb):PE X (.IfExp c a b pos) (tIf tA ta tb):=by
 intro pins s σ H Q I h;refine wpAny_IfExp (thn (hc pins s σ H _ I h) fun d s1 ⟨H1,I1,q1⟩=>?_)
 cases d with
 | true=>exact ha pins s1 σ H1 Q I1 q1
 | false=>exact hb pins s1 σ H1 Q I1 q1
end
def SqL (K:ae) (H:Hp) (a:aa) (xs:List V):Prop:=
 Rd H a (.lst xs) \/
  ∃ (o:Obj) (its:Array af) (n:Nat),K.lookup a=some o/\o.cls=.type "list"/\o.dict=none/\o.data=.seq its n/\its.size<=au/\cX xs its.toList
def SqT (K:ae) (H:Hp) (a:aa) (xs:List V):Prop:=
 Rd H a (.tup xs) \/
  ∃ (o:Obj) (its:Array af) (n:Nat),K.lookup a=some o/\o.cls=.type "tuple"/\o.data=.seq its n/\its.size<=au/\cX xs its.toList
def absV:af->Option V
 | .none=>some .non
 | .bool b=>some (.bl b)
 | .int i _=>some (.int i)
 | .str x _=>some (.str x)
 | .bytes b _=>some (.byt b)
 | .float b _=>some (.flt b)
 | .ref a=>some (.ref a)
 | .type n=>some (.ty n)
 | _=>none
theorem RelV.abs {x:V} {u:af} (r:RelV x u):absV u=some x:=by
 cases x with
 | non=>cases r; rfl
 | bl _=>cases r; rfl
 | int _=>obtain ⟨t,rfl⟩:=r; rfl
 | str _=>obtain ⟨t,rfl⟩:=r; rfl
 | byt _=>obtain ⟨t,rfl⟩:=r; rfl
 | flt _=>obtain ⟨t,rfl⟩:=r; rfl
 | ref _=>cases r; rfl
 | ty _=>cases r; rfl
theorem RelV.inj {x y:V} {u:af} (r:RelV x u) (q:RelV y u):x=y:=cQ (r.abs.symm.trans q.abs)
theorem cX.inj:∀ {xs ys:List V} {us:List af},cX xs us->cX ys us->xs=ys
 | _,_,_,.nil,.nil=>rfl
 | _,_,_,.cons r t,.cons r' t'=>by rw [r.inj r',cX.inj t t']
section
variable {X:Cx} {pins:List (aa×Obj)} {σ:St} {H:Hp} {s:ar} {a:aa} {xs ys:List V}
theorem SqL.of {K:ae} (h:H a=some (.lst xs)):SqL K H a xs:=.inl (.inl h)
theorem SqT.of {K:ae} (h:H a=some (.tup xs)):SqT K H a xs:=.inl (.inl h)
theorem Inv.list (I:Inv X pins σ H s) (h:SqL X.K H a xs):∃ its:List af,cX xs its/\PlainL s.heap a its.toArray/\xs.length<=au:=by
 rcases h with h | ⟨o,its,n,hk,hc,hd,hs,hz,r⟩
 ·obtain ⟨z,its,n,r,e⟩:=h.ok I.hok;exact ⟨its,r,⟨_,n,e,rfl,rfl,rfl⟩,z⟩
 ·refine ⟨its.toList,r,⟨o,n,I.kIn a o hk,hc,hd,by simpa using hs⟩,?_⟩;have e:=r.length;simp only [gs] at e;omega
theorem Inv.tuple (I:Inv X pins σ H s) (h:SqT X.K H a xs):∃ its:List af,cX xs its/\sh s.heap a its.toArray/\xs.length<=au:=by
 rcases h with h | ⟨o,its,n,hk,hc,hs,hz,r⟩
 ·obtain ⟨z,its,r,p⟩:=h.ok I.hok;exact ⟨its,r,p,z⟩
 ·refine ⟨its.toList,r,⟨o,I.kIn a o hk,hc,n,by simpa using hs⟩,?_⟩;have e:=r.length;simp only [gs] at e;omega
theorem Inv.list_inj (I:Inv X pins σ H s) (h:SqL X.K H a xs) (h':SqL X.K H a ys):xs=ys:=by
 obtain ⟨its,r,⟨o,n,e,_,_,d⟩,_⟩:=I.list h;obtain ⟨its',r',⟨o',n',e',_,_,d'⟩,_⟩:=I.list h';rw [e] at e'; cases e';rw [d] at d';injection d' with d1 _;have:its=its':=by simpa using congrArg Kx d1
 subst this;exact r.inj r'
theorem Inv.tuple_inj (I:Inv X pins σ H s) (h:SqT X.K H a xs) (h':SqT X.K H a ys):xs=ys:=by
 obtain ⟨its,r,⟨o,e,_,n,d⟩,_⟩:=I.tuple h;obtain ⟨its',r',⟨o',e',_,n',d'⟩,_⟩:=I.tuple h';rw [e] at e'; cases e';rw [d] at d';injection d' with d1 _;have:its=its':=by simpa using congrArg Kx d1
 subst this;exact r.inj r'
end
abbrev Cx.wish (X:Cx) (E:af->ar->Prop):Cx:={X with xe:=E}
abbrev Cx.nox (X:Cx):Cx:=X.wish fun _ _=>False
theorem Cx.Ok.wish {X:Cx} (ok:X.Ok) (E:af->ar->Prop):(X.wish E).Ok:=
 ⟨ok.mod,ok.kind,ok.glob,ok.blt,ok.above,ok.inj,ok.has,ok.cab,ok.hd,ok.frames,ok.stk,ok.exf,ok.bs,ok.bsz,ok.noex,ok.exfs,ok.funs,ok.frf⟩
theorem Cx.Ok.unwish {X:Cx} {E:af->ar->Prop} (ok:(X.wish E).Ok):X.Ok:=
 ⟨ok.mod,ok.kind,ok.glob,ok.blt,ok.above,ok.inj,ok.has,ok.cab,ok.hd,ok.frames,ok.stk,ok.exf,ok.bs,ok.bsz,ok.noex,ok.exfs,ok.funs,ok.frf⟩
section
variable {X:Cx} {pins:List (aa×Obj)} {σ:St} {H:Hp} {s:ar} {E:af->ar->Prop}
theorem Inv.wish (I:Inv X pins σ H s) (E:af->ar->Prop):Inv (X.wish E) pins σ H s:=⟨I.ok.wish E,I.os,I.bare,I.base,I.loc,I.cell,I.free,I.freeC,I.pin,I.hok,I.len⟩
theorem Inv.unwish (I:Inv (X.wish E) pins σ H s):Inv X pins σ H s:=⟨I.ok.unwish,I.os,I.bare,I.base,I.loc,I.cell,I.free,I.freeC,I.pin,I.hok,I.len⟩
theorem SP.unwish {D:kL} {f:Flow} {s':ar} (h:SP (X.wish E) pins D f s'):SP X pins D f s':=by
 cases f with
 | next=>obtain ⟨σ',H',I,q⟩:=h; exact ⟨σ',H',I.unwish,q⟩
 | brk=>obtain ⟨σ',H',I,q⟩:=h; exact ⟨σ',H',I.unwish,q⟩
 | cont=>obtain ⟨σ',H',I,q⟩:=h; exact ⟨σ',H',I.unwish,q⟩
 | ret u=>obtain ⟨v,σ',H',I,r,q⟩:=h; exact ⟨v,σ',H',I.unwish,r,q⟩
theorem PSs.nox {st:List dJ} {t:TS} (h:PSs X.nox st t):PSs X st t:=fun pins s σ H D I hw =>
 eN (h pins s σ H D (I.wish _) hw) (fun _ _ q=>q.unwish) fun _ _ z=>dN z
end
section
variable {X:Cx} {st:dJ} {rest:List dJ} {t u:TS} {e:cZ} {te:TE} {pos:Pos}
def mw:TS:=fun D σ H=>D.nx σ H
def Ky (t u:TS):TS:=fun D σ H=>t {D with nx:=u D} σ H
theorem cq:PSs X [] mw:=fun _ _ σ H _ I h=>qS ⟨σ,H,I,h⟩
theorem ak (h1:PS X st t) (h2:PSs X rest u):PSs X (st :: rest) (Ky t u):=by
 intro pins s σ H D I h;refine wpAny_execs_cons (thn (h1 pins s σ H {D with nx:=u D} I h) fun f s1 q=>?_)
 cases f with
 | next =>
  obtain ⟨σ',H',I',q⟩:=q;exact h2 pins s1 σ' H' D I' q
 | ret v=>exact q
 | brk=>exact q
 | cont=>exact q
theorem aF (h1:PS X st t):PSs X [st] t:=by
 intro pins s σ H D I h;refine wpAny_execs_cons (thn (h1 pins s σ H D I h) fun f s1 q=>?_)
 cases f with
 | next=>exact qS q
 | ret v=>exact q
 | brk=>exact q
 | cont=>exact q
theorem Inv.quiet {pins:List (aa×Obj)} {σ:St} {H:Hp} {s:ar} (I:Inv X pins σ H s):interactive X.env=false:=by simp [interactive,I.ok.kind]
def tDrop (te:TE):TS:=fun D σ H=>te σ H fun _ H1=>D.nx σ H1
theorem eK (he:PE X e te) (hs:tM e none pos.line X.env=pure false:=by rfl):PS X (.Expr e pos) (tDrop te):=by
 intro pins s σ H D I h;exact wpAny_Expr_any (thn (he pins s σ H _ I h) fun v s1 ⟨x,H1,I1,r1,q1⟩=>⟨σ,H1,I1,q1⟩) I.quiet hs
def tRet (te:TE):TS:=fun D σ H=>te σ H D.rt
theorem bQ (he:PE X e te):PS X (.Return (some e) pos) (tRet te):=by
 intro pins s σ H D I h;exact wpAny_Return_some (thn (he pins s σ H _ I h) fun v s1 ⟨x,H1,I1,r1,q1⟩=>⟨x,σ,H1,I1,r1,q1⟩)
def Hn (c:TT) (t u:TS):TS:=fun D σ H=>c σ H fun b H1=>if b=true then t D σ H1 else u D σ H1
theorem cS {c:cZ} {a b:List dJ} {tc:TT} (hc:PT X c tc) (ha:PSs X a t) (hb:PSs X b u):PS X (.If c a b pos) (Hn tc t u):=by
 intro pins s σ H D I h;refine wpAny_If (thn (hc pins s σ H _ I h) fun d s1 ⟨H1,I1,q1⟩=>?_)
 cases d with
 | true=>exact ha pins s1 σ H1 D I1 q1
 | false=>exact hb pins s1 σ H1 D I1 q1
def Kz:TS:=fun _ _ _=>False
theorem wc {sts:List dJ}:PSs X sts Kz:=fun _ _ _ _ _ _ h=>h.elim
end
abbrev TG:=V->St->Hp->(St->Hp->Prop)->Prop
abbrev TGs:=List V->St->Hp->(St->Hp->Prop)->Prop
def PG (X:Cx) (target:cZ) (t:TG):Prop:=
 ∀ (pins:List (aa×Obj)) (s:ar) (σ:St) (H:Hp) (v:V) (u:af) (Q:St->Hp->Prop),Inv X pins σ H s->RelV v u->t v σ H Q ->
  aW (bJ X.prog X.w) X.A (xo target X.env u) (fun _ s'=>∃ σ' H',Inv X pins σ' H' s'/\Q σ' H') X.xe s
def PGs (X:Cx) (ts:List cZ) (t:TGs):Prop:=
 ∀ (pins:List (aa×Obj)) (s:ar) (σ:St) (H:Hp) (vs:List V) (us:List af) (Q:St->Hp->Prop),Inv X pins σ H s->cX vs us->t vs σ H Q ->
  aW (bJ X.prog X.w) X.A (assignInOrder ((iC ts X.env).map (·.2)) us) (fun _ s'=>∃ σ' H',Inv X pins σ' H' s'/\Q σ' H') X.xe s
abbrev KA:=V->V->V->Hp->(Hp->Prop)->Prop
def PSet (X:Cx) (t:KA):Prop:=
 ∀ (pins:List (aa×Obj)) (s:ar) (σ:St) (H:Hp) (o i v:V) (ov iv u:af) (Q:Hp->Prop),Inv X pins σ H s->RelV o ov->RelV i iv->RelV v u->t o i v H Q ->
  aW (bJ X.prog X.w) X.A (setItem ov iv u) (fun _ s'=>∃ H',Inv X pins σ H' s'/\Q H') X.xe s
section
variable {X:Cx} {pos:Pos}
def yF (i:Nat):TG:=fun v σ H Q=>Q (σ.set i (some v)) H
theorem cP {i:Nat} {x:Str} (hN:X.N.Nodup) (hi:X.N[i]?=some x) (hx:Loc X.env.scope x) (hf:X.fn x=true\/X.env.scope.names.lookup x=some .local:=by first | exact .inl rfl | exact .inr rfl | assumption):PG X (.Name x pos) (yF i):=by
 intro pins s σ H v u Q I r h;exact MI (qX I hN hi hx r (fun s' I'=>⟨_,H,I',h⟩) hf)
def gNil:TGs:=fun vs σ H Q=>vs=[]/\Q σ H
inductive Jr (t:TG) (u:TGs) (vs:List V) (σ:St) (H:Hp) (Q:St->Hp->Prop):Prop where
 | mk (v:V) (r:List V) (h:vs=v :: r) (q:t v σ H fun σ' H'=>u r σ' H' Q):Jr t u vs σ H Q
def gCons (t:TG) (u:TGs):TGs:=fun vs σ H Q=>Jr t u vs σ H Q
theorem nj:PGs X [] gNil:=by
 intro pins s σ H vs us Q I r h;obtain ⟨e,h⟩:=h;subst e
 cases r;exact assignInOrder_nil ⟨σ,H,I,h⟩
theorem eF {e:cZ} {es:List cZ} {t:TG} {u:TGs} (h1:PG X e t) (h2:PGs X es u)
  (hs:(iC (e :: es) X.env).map (·.2)=xo e X.env :: (iC es X.env).map (·.2):=by rfl):PGs X (e :: es) (gCons t u):=by
 intro pins s σ H vs us Q I r h;obtain ⟨v,vr,e1,h⟩:=h;subst e1
 cases r with
 | cons r rr =>
  rw [hs];refine assignInOrder_cons (thn (h1 pins s σ H _ _ _ I r h) fun _ s1 ⟨σ1,H1,I1,q1⟩=>?_);exact h2 pins s1 σ1 H1 _ _ Q I1 rr q1
inductive GTup (K:ae) (n:Nat) (t:TGs) (v:V) (σ:St) (H:Hp) (Q:St->Hp->Prop):Prop where
 | mk (a:aa) (xs:List V) (h:v=.ref a) (s:SqT K H a xs) (l:xs.length=n) (q:t xs σ H Q):GTup K n t v σ H Q
def gTup (K:ae) (n:Nat) (t:TGs):TG:=fun v σ H Q=>GTup K n t v σ H Q
theorem xp {es:List cZ} {k:Nat} {t:TGs} {n:Nat} (hc:X.calm=true) (h:PGs X es t)
  (hn:(iC es X.env).length=n:=by rfl) (hst:(iC es X.env).findIdx? (·.1)=none:=by rfl):PG X (.Tuple es k pos) (gTup X.K n t):=by
 intro pins s σ H v u Q I r hw;obtain ⟨a,xs,e1,hq,hl,hw⟩:=hw;subst e1
 cases r;obtain ⟨its,rv,ht,hz⟩:=I.tuple hq;refine assign_Tuple_tuple (I.ok.hd hc) ht (by simp [hn,<- hl,rv.length]) hst fun h' hx=>?_;have I1:Inv X pins σ H {s with heap:=h'}:=I.kept (t':=s.toks) fun b o e=>hx b o (aN (aM e)) e;exact h pins _ σ H xs _ Q I1 (by simpa using rv) hw
def gSub (to ti:TE) (t:KA):TG:=fun v σ H Q=>to σ H fun o H1=>ti σ H1 fun i H2=>t o i v H2 fun H3=>Q σ H3
theorem zI {o i:cZ} {to ti:TE} {t:KA} (ho:PE X o to) (hi:PE X i ti) (hs:PSet X t)
  (ha:∀ v,xo (.Subscript o i pos) X.env v=(do
   let ov <- qB [v] (fy o X.env)
   let iv <- qB [v,ov] (fy i X.env)
   vK pos
   qB [v,ov,iv] (setItem ov iv v)
   release [v,ov,iv] []):=by intro _; rfl):PG X (.Subscript o i pos) (gSub to ti t):=by
 intro pins s σ H v u Q I r h;rw [ha];refine aq (dD (thn (ho pins s σ H _ I h) fun ov s1 ⟨x,H1,I1,r1,q1⟩=>?_));refine aq (dD (thn (hi pins s1 σ H1 _ I1 q1) fun iv s2 ⟨y,H2,I2,r2,q2⟩=>?_));refine aq (uq (aq (dD (thn (hs pins s2 σ H2 x y v ov iv u _ I2 r1 r2 r q2) fun _ s3 ⟨H3,I3,q3⟩=>?_))));exact wpAny_release ⟨σ,H3,I3,q3⟩
def DZ (te:TE) (g:TG):TS:=fun D σ H=>te σ H fun x H1=>g x σ H1 D.nx
theorem qD {tg e:cZ} {te:TE} {g:TG} (he:PE X e te) (hg:PG X tg g) (hs:swapsWithSole [tg] e pos.line X.env=pure false:=by rfl) (hw:swappedStores [tg] e X.env=pure none:=by rfl)
  (h1:(iC [tg] X.env).map (·.2)=[xo tg X.env]:=by rfl):PS X (.Assign [tg] e pos) (DZ te g):=by
 intro pins s σ H D I h;refine wpAny_Assign_stores (thn (he pins s σ H _ I h) fun v s1 ⟨x,H1,I1,r1,q1⟩=>?_) hs hw;rw [h1];exact thn (hg pins s1 σ H1 x v _ I1 r1 q1) fun _ s2 q=>q
theorem aZ {i:Nat} {x:Str} {e:cZ} {te:TE} {pos':Pos} (hN:X.N.Nodup) (hi:X.N[i]?=some x) (hx:Loc X.env.scope x) (he:PE X e te) (hs:tM e (some (.Name x pos')) pos.line X.env=pure false:=by rfl) (hf:X.fn x=true\/X.env.scope.names.lookup x=some .local:=by first | exact .inl rfl | exact .inr rfl | assumption) :
  PS X (.Assign [.Name x pos'] e pos) (DZ te (yF i)):=by
 intro pins s σ H D I h;refine wpAny_Assign_Name (thn (he pins s σ H _ I h) fun v s1 ⟨y,H1,I1,r1,q1⟩=>?_) hs;exact qX I1 hN hi hx r1 (fun s2 I2=>⟨_,H1,I2,q1⟩) hf
end
section
variable {X:Cx} {pos:Pos}
def D0 (c:TT) (tb:TS):TS:=fun D σ H=>∃ W:Nat->St->Hp->Prop,(∃ m,W m σ H)/\∀ m σ H,W m σ H ->
 c σ H fun b H1=>if b=true then ∃ N:St->Hp->Prop,(∀ σ' H',N σ' H'->∃ m',m' < m/\W m' σ' H')/\tb {D with nx:=N,ct:=N,bk:=D.nx} σ H1 else D.nx σ H1
theorem yG {c:cZ} {body:List dJ} {tc:TT} {tb:TS} (hp:PassesOwn (bJ X.prog X.w) X.A X.env X.xe) (hc:PT X c tc) (hb:PSs X body tb):PS X (.While c body [] pos) (D0 tc tb):=by
 intro pins s σ H D I h;obtain ⟨W,⟨m0,w0⟩,turn⟩:=h;refine wpAny_While (codeAny_whileLoop (fun n s'=>∃ σ' H',Inv X pins σ' H' s'/\W n σ' H') ?_ m0 ⟨σ,H,I,w0⟩);rintro n s1 ⟨σ1,H1,I1,w1⟩;refine iK hp (thn (hc pins s1 σ1 H1 _ I1 (turn n σ1 H1 w1)) fun b s2 ⟨H2,I2,q2⟩=>?_)
 cases b with
 | true =>
  obtain ⟨N,hN,q2⟩:=q2;rw [if_pos rfl];refine iK hp (thn (hb pins s2 σ1 H2 _ I2 q2) fun f s3 q3=>?_)
  cases f with
  | next =>
   obtain ⟨σ3,H3,I3,n3⟩:=q3;obtain ⟨m',hm,w3⟩:=hN σ3 H3 n3;exact ⟨m',hm,σ3,H3,I3,w3⟩
  | cont =>
   obtain ⟨σ3,H3,I3,n3⟩:=q3;obtain ⟨m',hm,w3⟩:=hN σ3 H3 n3;exact ⟨m',hm,σ3,H3,I3,w3⟩
  | brk=>exact q3
  | ret v=>exact q3
 | false =>
  rw [if_neg cg];exact qS ⟨σ1,H2,I2,q2⟩
end
structure It where
 go:Nat->Hp->Prop
 yld:Nat->Hp->V->Hp->Prop
 stop:Nat->Hp->Prop
def xq (X:Cx) (pins:List (aa×Obj)) (H:Hp) (b:aa):Prop:=
 H b=none/\b≠X.env.locals/\b∉X.fs/\(b∈X.ex\/X.s₀.heap.objs.size<=b)/\(∀ x c,X.env.cells.lookup x=some c->c≠b)/\∀ p∈X.pn++pins,p.1≠b
theorem Inv.fpOk {X:Cx} {pins:List (aa×Obj)} {σ:St} {H H':Hp} {s:ar} {b:aa} (I:Inv X pins σ H s) (hb:s.heap.objs.size<=b) (hn:H' b=none):xq X pins H' b:=by
 refine ⟨hn,oP (bK I.lt hb),I.nofs hb,.inr (dH I.sz hb),fun x c e z=>?_,fun p hp z=>?_⟩
 ·obtain ⟨v,q⟩:=I.cell x c e;exact absurd (bK q.lt (by rw [z]; exact hb)) (hU _)
 ·exact absurd (bK (aM (I.pin p hp).1) (by rw [z]; exact hb)) (hU _)
structure Cf (P:aL) (w:bN) (K:ae) (tg:cZ) (J:It) (fp:List aa) (it:aa) (tn:Nat->cF->Prop):Prop where
 mem:it∈fp
 obj:∀ i h,tn i h->∀ b∈fp,∃ o,h.get? b=some o/\∀ v,o.data≠.cell v
 keep:∀ i h h',tn i h->(∀ b∈fp,∀ o,h.get? b=some o->h'.get? b=some o)->tn i h'
 item:∀ (X:Cx),X.prog=P->X.w=w->X.K=K->X.calm=true->∀ (i:Nat) (pins:List (aa×Obj)) (s:ar) (σ:St) (H:Hp) (E:af->ar->Prop),Inv X pins σ H s->(∀ b∈fp,xq X pins H b)->tn i s.heap->J.go i H ->
  aW (bJ P w) X.A (pyNext (.ref it)) (fun r s1=>∃ u,r=some u /\
   aW (bJ P w) X.A (qT tg (.ref it) u) (fun _ s2=>∃ x H',Inv X pins σ H' s2/\RelV x u/\J.yld i H x H'/\tn (i + 1) s2.heap/\∀ b∈fp,H' b=none) E s1) E s
 done:∀ (X:Cx),X.prog=P->X.w=w->X.K=K->X.calm=true->∀ (i:Nat) (pins:List (aa×Obj)) (s:ar) (σ:St) (H:Hp) (E:af->ar->Prop),Inv X pins σ H s->(∀ b∈fp,xq X pins H b)->tn i s.heap->J.stop i H ->
  aW (bJ P w) X.A (pyNext (.ref it)) (fun r s1=>r=none/\Inv X pins σ H s1) E s
 self:∀ (A:bZ) (i:Nat) (s:ar) (Q:af->ar->Prop) (E:af->ar->Prop),tn i s.heap->Q (.ref it) s->aW (bJ P w) A (pyIter (.ref it)) Q E s
abbrev TI:=St->Hp->(It->Hp->Prop)->Prop
def PIE (X:Cx) (pins:List (aa×Obj)) (σ:St) (tg:cZ) (R:It->Hp->Prop) (itv:af) (s2:ar):Prop:=
 ∃ (it:aa) (fp:List aa) (tn:Nat->cF->Prop) (J:It) (H':Hp),itv=.ref it/\Inv X pins σ H' s2/\Cf X.prog X.w X.K tg J fp it tn/\tn 0 s2.heap/\(∀ b∈fp,xq X pins H' b)/\R J H'
def PI (X:Cx) (tg iter:cZ) (wi:TI):Prop:=
 ∀ (pins:List (aa×Obj)) (s:ar) (σ:St) (H:Hp) (R:It->Hp->Prop),Inv X pins σ H s->wi σ H R ->
  aW (bJ X.prog X.w) X.A (fy iter X.env) (fun v s1=>aW (bJ X.prog X.w) X.A (pyIter v) (PIE X pins σ tg R) X.xe s1) X.xe s
theorem Ea {M:Hm} {A:bZ} {E:af->ar->Prop} {s:ar} {tg:cZ} {it:aa} {u:af} {o:Obj} {n:String} {vs:Array af} {Q:Unit->ar->Prop} (ho:s.heap.get? it=some o) (hc:o.cls=.type n) (hd:o.data=.fields vs)
  (hn:["enumerate","zip","dict_itemiterator","dict_reverseitemiterator","odict_iterator","itertools.zip_longest","itertools.pairwise"].contains n=false) (hQ:Q () s):aW M A (qT tg (.ref it) u) Q E s:=by
 unfold qT
 cases tg <;> first
  | exact aP hQ
  |(cases u <;> first
    | exact aP hQ
    |(refine aq (wpAny_load ho ?_)
      rw [hc,hd];show aW M A (if (["enumerate","zip","dict_itemiterator","dict_reverseitemiterator","odict_iterator","itertools.zip_longest","itertools.pairwise"].contains n && vs[0]? == some (sC _))=true then _ else _) Q E s;rw [if_neg (by intro h; rw [hn,Bool.false_and] at h; cases h)];exact aP hQ))
def Itl (K:ae) (a:aa):It:=
 ⟨fun i H=>∃ xs x,SqL K H a xs/\xs[i]?=some x,fun i H x H'=>H'=H/\∀ xs,SqL K H a xs->xs[i]?=some x,fun i H=>∃ xs,SqL K H a xs/\xs.length<=i⟩
def Itt (K:ae) (a:aa):It:=
 ⟨fun i H=>∃ xs x,SqT K H a xs/\xs[i]?=some x,fun i H x H'=>H'=H/\∀ xs,SqT K H a xs->xs[i]?=some x,fun i H=>∃ xs,SqT K H a xs/\xs.length<=i⟩
def Itr (lo:Int) (n:Nat):It:=⟨fun i _=>i < n,fun i H x H'=>H'=H/\x=.int (lo + i),fun i _=>n<=i⟩
theorem Cg {P:aL} {w:bN} {K:ae} {tg:cZ} (a it:aa):Cf P w K tg (Itl K a) [it] it (fun i h=>h.IsListIter it a i) where
 mem:=by simp
 obj:=fun i h st b hb=>by
  have e:b=it:=by simpa using hb
  subst e;obtain ⟨o,e,c,d⟩:=st;exact ⟨o,e,fun v z=>by rw [d] at z; cases z⟩
 keep:=fun i h h' st k=>st.at fun o e=>k it (by simp) o e
 item:=by
  intro X hP hw hK hc i pins s σ H E I hf st hg;subst hP hw hK;obtain ⟨xs,x,hq,hx⟩:=hg;obtain ⟨its,rv,p,hz⟩:=I.list hq;obtain ⟨u,hu,ru⟩:=rv.get hx;obtain ⟨f0,f1,f2,f3,f4,f5⟩:=hf it (by simp);refine qE st p.isList (x:=u) (by simpa using hu) fun h' st' sb=>?_;have I1:Inv X pins σ H {s with heap:=h'}:=I.turned (t':=s.toks) (fun b o hb e=>(sb.2 b hb).trans e) f0 f1 f3 f4 f5;obtain ⟨o,e,c,d⟩:=id st';exact ⟨u,rfl,Ea (s:={s with heap:=h'}) e c d (by decide) ⟨x,H,I1,ru,⟨rfl,fun ys hy=>by rw [I.list_inj hy hq]; exact hx⟩,st',fun b hb=>(hf b hb).1⟩⟩
 done:=by
  intro X hP hw hK hc i pins s σ H E I hf st hg;subst hP hw hK;obtain ⟨xs,hq,hx⟩:=hg;obtain ⟨its,rv,p,hz⟩:=I.list hq;obtain ⟨f0,f1,f2,f3,f4,f5⟩:=hf it (by simp);have hl:=rv.length;exact q9 (I.ok.hd hc) st p.isList (by simp; omega) fun h' eb=>⟨rfl,I.turned (t':=s.toks) (fun b o hb e=>eb b o hb e) f0 f1 f3 f4 f5⟩
 self:=fun _ _ _ _ _ st h=>wpAny_pyIter_listiter st h
theorem zJ {P:aL} {w:bN} {K:ae} {tg:cZ} (a it:aa):Cf P w K tg (Itt K a) [it] it (fun i h=>h.IsTupleIter it a i) where
 mem:=by simp
 obj:=fun i h st b hb=>by
  have e:b=it:=by simpa using hb
  subst e;obtain ⟨o,e,c,d⟩:=st;exact ⟨o,e,fun v z=>by rw [d] at z; cases z⟩
 keep:=fun i h h' st k=>st.at fun o e=>k it (by simp) o e
 item:=by
  intro X hP hw hK hc i pins s σ H E I hf st hg;subst hP hw hK;obtain ⟨xs,x,hq,hx⟩:=hg;obtain ⟨its,rv,p,hz⟩:=I.tuple hq;obtain ⟨u,hu,ru⟩:=rv.get hx;obtain ⟨f0,f1,f2,f3,f4,f5⟩:=hf it (by simp);refine wpAny_pyNext_tuple_item st (show s.heap.IsTuple a its.toArray from p) (x:=u) (by simpa using hu) fun h' st' sb=>?_;have I1:Inv X pins σ H {s with heap:=h'}:=I.turned (t':=s.toks) (fun b o hb e=>(sb.2 b hb).trans e) f0 f1 f3 f4 f5;obtain ⟨o,e,c,d⟩:=id st';exact ⟨u,rfl,Ea (s:={s with heap:=h'}) e c d (by decide) ⟨x,H,I1,ru,⟨rfl,fun ys hy=>by rw [I.tuple_inj hy hq]; exact hx⟩,st',fun b hb=>(hf b hb).1⟩⟩
 done:=by
  intro X hP hw hK hc i pins s σ H E I hf st hg;subst hP hw hK;obtain ⟨xs,hq,hx⟩:=hg;obtain ⟨its,rv,p,hz⟩:=I.tuple hq;obtain ⟨f0,f1,f2,f3,f4,f5⟩:=hf it (by simp);have hl:=rv.length;exact wpAny_pyNext_tuple_end (I.ok.hd hc) st (show s.heap.IsTuple a its.toArray from p) (by simp; omega) fun h' eb=>⟨rfl,I.turned (t':=s.toks) (fun b o hb e=>eb b o hb e) f0 f1 f3 f4 f5⟩
 self:=fun _ _ _ _ _ st h=>wpAny_pyIter_tupleiter st h
theorem zK {P:aL} {w:bN} {K:ae} {tg:cZ} (it:aa) (lo:Int) (n:Nat):Cf P w K tg (Itr lo n) [it] it (fun i h=>IsRangeIter h it (lo + (i:Nat) * 1) ((n:Int) - (i:Nat)) 1) where
 mem:=by simp
 obj:=fun i h st b hb=>by
  have e:b=it:=by simpa using hb
  subst e;exact ⟨_,st,fun v z=>by
   have z':Data.fields _=Data.cell v:=z
   cases z'⟩
 keep:=fun i h h' st k=>k it (by simp) _ st
 item:=by
  intro X hP hw hK hc i pins s σ H E I hf st hg;subst hP hw hK;obtain ⟨f0,f1,f2,f3,f4,f5⟩:=hf it (by simp);have W:=Walks.range (prog:=X.prog) (w:=X.w) (I.ok.hd hc) it lo 1 n;refine W.item i s _ _ hg st fun v h' tk hv st' kk=>?_;obtain ⟨t,rfl⟩:=hv;have I1:Inv X pins σ H {s with heap:=h',toks:=tk}:=I.turned (fun b o hb e=>kk b o (by simpa using hb) e) f0 f1 f3 f4 f5;refine ⟨_,rfl,Ea (s:={s with heap:=h',toks:=tk}) (n:="range_iterator") st' rfl rfl (by decide) ⟨.int (lo + i),H,I1,⟨t,?_⟩,⟨rfl,rfl⟩,st',fun b hb=>(hf b hb).1⟩⟩;rw [Int.mul_one]
 done:=by
  intro X hP hw hK hc i pins s σ H E I hf st hg;subst hP hw hK;obtain ⟨f0,f1,f2,f3,f4,f5⟩:=hf it (by simp);exact wpAny_pyNext_range_end (I.ok.hd hc) st (by have:n<=i:=hg; omega) fun h' eb=>⟨rfl,I.turned (t':=s.toks) (fun b o hb e=>eb b o hb e) f0 f1 f3 f4 f5⟩
 self:=fun _ _ _ _ _ st h=>wpAny_pyIter_rangeiter st h
section
variable {X:Cx} {tg:cZ}
def Eb (K:ae) (tl:TE):TI:=fun σ H R=>tl σ H fun x H1=>∃ a,x=.ref a/\(∃ xs,SqL K H1 a xs)/\R (Itl K a) H1
def iTup (K:ae) (tl:TE):TI:=fun σ H R=>tl σ H fun x H1=>∃ a,x=.ref a/\(∃ xs,SqT K H1 a xs)/\R (Itt K a) H1
theorem i0 {l:cZ} {tl:TE} (hl:PE X l tl):PI X tg l (Eb X.K tl):=by
 intro pins s σ H R I h;refine thn (hl pins s σ H _ I h) fun v s1 ⟨x,H1,I1,r1,q1⟩=>?_;obtain ⟨a,e,⟨xs,hq⟩,q⟩:=q1;subst e
 cases r1;obtain ⟨its,rv,p,hz⟩:=I1.list hq;refine vL p.isList ?_;refine ⟨s1.heap.objs.size,[s1.heap.objs.size],_,_,H1,rfl,I1.kept (t':=s1.toks) fun b o e=>aJ _ e,Cg a _,⟨_,cz _ rfl,rfl,rfl⟩,fun b hb=>?_,q⟩;have e:b=s1.heap.objs.size:=by simpa using hb
 subst e;exact I1.fpOk (aE _) (I1.hok.fresh (aE _))
theorem KB {l:cZ} {tl:TE} (hl:PE X l tl):PI X tg l (iTup X.K tl):=by
 intro pins s σ H R I h;refine thn (hl pins s σ H _ I h) fun v s1 ⟨x,H1,I1,r1,q1⟩=>?_;obtain ⟨a,e,⟨xs,hq⟩,q⟩:=q1;subst e
 cases r1;obtain ⟨its,rv,p,hz⟩:=I1.tuple hq;refine wpAny_pyIter_tuple (show s1.heap.IsTuple a its.toArray from p) ?_;refine ⟨s1.heap.objs.size,[s1.heap.objs.size],_,_,H1,rfl,I1.kept (t':=s1.toks) fun b o e=>aJ _ e,zJ a _,⟨_,cz _ rfl,rfl,rfl⟩,fun b hb=>?_,q⟩;have e:b=s1.heap.objs.size:=by simpa using hb
 subst e;exact I1.fpOk (aE _) (I1.hok.fresh (aE _))
theorem Ec {pins:List (aa×Obj)} {σ:St} {H:Hp} {s:ar} {R:It->Hp->Prop} {E:af->ar->Prop} {lo hi:Int} {t u v:Tok} {tk:Nat} (I:Inv X pins σ H s) (h1:-(2 ^ 62)<=lo) (h2:lo < 2 ^ 62) (h3:-(2 ^ 62)<=hi) (h4:hi < 2 ^ 62)
  (q:R (Itr lo (hi - lo).toNat) H):aW (bJ X.prog X.w) X.A (pyIter (.ref s.heap.objs.size)) (PIE X pins σ tg R) E {s with heap:=s.heap.push {cls:=.type "range",data:=.fields #[.int lo t,.int hi u,.int 1 v]},toks:=tk}:=by
 refine wpAny_pyIter_range (IsRange.new ..) (small_one h1 h2 h3 h4) ?_;have I1:Inv X pins σ H {s with heap:=s.heap.push {cls:=.type "range",data:=.fields #[.int lo t,.int hi u,.int 1 v]},toks:=tk}:=I.kept fun b o e=>aJ _ e;refine ⟨(s.heap.push {cls:=.type "range",data:=.fields #[.int lo t,.int hi u,.int 1 v]}).objs.size,[(s.heap.push {cls:=.type "range",data:=.fields #[.int lo t,.int hi u,.int 1 v]}).objs.size],_,_,H,rfl,
  I1.kept (t':=tk) fun b o e=>aJ _ e,zK _ lo (hi - lo).toNat,?_,fun b hb=>?_,q⟩
 ·have e1:lo + ((0:Nat):Int) * 1=lo:=by simp
  have e2:(((hi - lo).toNat:Nat):Int) - ((0:Nat):Int)=Builtin.Range.rangeSize lo hi 1:=by rw [rangeSize_one]; split <;> omega
  show IsRangeIter _ _ (lo + ((0:Nat):Int) * 1) ((((hi - lo).toNat:Nat):Int) - ((0:Nat):Int)) 1;rw [e1,e2];exact cz _ rfl
 ·have e:b=(s.heap.push {cls:=.type "range",data:=.fields #[.int lo t,.int hi u,.int 1 v]}).objs.size:=by simpa using hb
  subst e;exact I1.fpOk (aE _) (I1.hok.fresh (aE _))
def Ee (ta:TA):TI:=fun σ H R=>ta σ H fun vs H1=>∃ j:Int,vs=[.int j]/\-(2 ^ 62)<=j/\j < 2 ^ 62/\R (Itr 0 j.toNat) H1
theorem iL {a:cZ} {ta:TA} {p pos:Pos} (hg:Gl X "range") (hm:X.mg "range"=none) (ha:PA X [a] ta) (hs:cM [a] X.env=[(false,fy a X.env)]:=by rfl):PI X tg (.Call (.Name "range" p) [a] [] pos) (Ee ta):=by
 intro pins s σ H R I h;refine Call_ (sj I hg hm boot_range (jU (thn (ha pos pins s σ H _ I h) fun us s1 ⟨vs,H1,I1,r1,q1⟩=>?_) hs rfl));obtain ⟨j,e,q1,q2,q⟩:=q1;subst e
 cases r1 with
 | cons r rr =>
  cases rr;obtain ⟨t,rfl⟩:=r;exact call_range_1 (Ec I1 (by omega) (by omega) q1 q2 (by simpa using q))
def tFor (wi:TI) (g:TG) (tb:TS):TS:=fun D σ H=>wi σ H fun J H1=>∃ W:Nat->Nat->St->Hp->Prop,(∃ m,W 0 m σ H1)/\∀ i m σ H,W i m σ H ->
 (J.stop i H/\D.nx σ H)\/(J.go i H/\∃ N:St->Hp->Prop,(∀ σ' H',N σ' H'->∃ m',m' < m/\W (i + 1) m' σ' H')/\∀ x H',J.yld i H x H'->g x σ H' fun σ2 H2=>tb {D with nx:=N,ct:=N,bk:=D.nx} σ2 H2)
def sE (fp:List aa) (h:cF):List (aa×Obj):=fp.filterMap fun b=>(h.get? b).map fun o=>(b,o)
theorem nr {fp:List aa} {h:cF} {b:aa} {o:Obj} (hb:b∈fp) (e:h.get? b=some o):(b,o)∈sE fp h:=rX.mpr ⟨b,hb,by rw [e]; rfl⟩
theorem Cj {fp:List aa} {h:cF} {p:aa×Obj} (hp:p∈sE fp h):p.1∈fp/\h.get? p.1=some p.2:=by
 obtain ⟨b,hb,e⟩:=rX.mp hp
 cases q:h.get? b with
 | none=>rw [q] at e; cases e
 | some o =>
  rw [q] at e;have e':(b,o)=p:=cQ e;subst e';exact ⟨hb,q⟩
theorem Inv.pinned {pins:List (aa×Obj)} {σ:St} {H:Hp} {s:ar} {fp:List aa} (I:Inv X pins σ H s) (hf:∀ b∈fp,xq X pins H b) (ho:∀ b∈fp,∃ o,s.heap.get? b=some o/\∀ v,o.data≠.cell v):Inv X (pins++sE fp s.heap) σ H s:=
 I.pins_of fun p hp=>(bU.mp hp).elim (fun z=>I.pin p (bL _ z)) fun z=>by
  obtain ⟨hb,e⟩:=Cj z;obtain ⟨f0,f1,f2,_⟩:=hf p.1 hb;obtain ⟨o,e',d⟩:=ho p.1 hb;rw [e] at e'; cases e';exact ⟨e,f0,f1,f2,d⟩
theorem Inv.unpinned {pins pl:List (aa×Obj)} {σ:St} {H:Hp} {s:ar} (I:Inv X (pins++pl) σ H s):Inv X pins σ H s:=I.pins_of fun p hp=>I.pin p (bL _ (gX _ hp))
theorem jy {iter:cZ} {body:List dJ} {wi:TI} {g:TG} {tb:TS} {pos:Pos} (hp:PassesOwn (bJ X.prog X.w) X.A X.env X.xe) (hc:X.calm=true) (hi:PI X tg iter wi) (hg:PG X tg g) (hb:PSs X body tb)
  (hs:∀ x,oI iter X.env x=pure x:=by intro _; rfl):PS X (.For tg iter body [] pos) (tFor wi g tb):=by
 intro pins s σ H D I h;refine wpAny_For (thn (hi pins s σ H _ I h) fun v s1 h1=>thn h1 fun itv s2 h2=>?_) hs;obtain ⟨it,fp,tn,J,H2,e,I2,T,st2,f2,W,⟨m0,w0⟩,turn⟩:=h2;subst e
 -- what stays true of the iterator's objects through the loop
 have stat:∀ {H':Hp},(∀ b∈fp,H' b=none)->∀ b∈fp,xq X pins H' b:=fun hn b hb=>⟨hn b hb,(f2 b hb).2⟩;refine codeAny_forLoop_any (fun n s'=>∃ i σ' H',Inv X pins σ' H' s'/\tn i s'.heap/\(∀ b∈fp,H' b=none)/\W i n σ' H') ?_ m0 ⟨0,σ,H2,I2,st2,fun b hb=>(f2 b hb).1,w0⟩;rintro n s3 ⟨i,σ3,H3,I3,st3,fr3,w3⟩
 rcases turn i n σ3 H3 w3 with ⟨stop,qn⟩ | ⟨go,N,hN,step⟩
 ·refine iK hp (thn (T.done X rfl rfl rfl hc i pins s3 σ3 H3 X.xe I3 (stat fr3) st3 stop) fun r s4 ⟨hr,I4⟩=>?_);subst hr;exact qS ⟨σ3,H3,I4,qn⟩
 ·refine iK hp (thn (T.item X rfl rfl rfl hc i pins s3 σ3 H3 X.xe I3 (stat fr3) st3 go) fun r s4 ⟨u,hr,h4⟩=>?_);subst hr;refine iK hp (thn h4 fun _ s5 ⟨x,H5,I5,r5,y5,st5,fr5⟩=>?_);have I5':=I5.pinned (stat fr5) (T.obj _ _ st5);refine iK hp (thn (hg _ s5 σ3 H5 x u _ I5' r5 (step x H5 y5)) fun _ s6 ⟨σ6,H6,I6,q6⟩=>?_);refine iK hp (thn (hb _ s6 σ6 H6 _ I6 q6) fun f s7 q7=>?_);have again:∀ {σ7:St} {H7:Hp},Inv X (pins++sE fp s5.heap) σ7 H7 s7->N σ7 H7->∃ m,m < n/\∃ i σ' H',Inv X pins σ' H' s7/\tn i s7.heap/\(∀ b∈fp,H' b=none)/\W i m σ' H':=fun {σ7 H7} I7 n7=>by
   obtain ⟨m',hm,w7⟩:=hN σ7 H7 n7;refine ⟨m',hm,i + 1,σ7,H7,I7.unpinned,T.keep _ _ _ st5 fun b hb o e=>(I7.pin (b,o) (bL _ (bL _ (nr hb e)))).1,fun b hb=>?_,w7⟩;obtain ⟨o,e,d⟩:=T.obj _ _ st5 b hb;exact (I7.pin (b,o) (bL _ (bL _ (nr hb e)))).2.1
  cases f with
  | next=>obtain ⟨σ7,H7,I7,n7⟩:=q7; exact again I7 n7
  | cont=>obtain ⟨σ7,H7,I7,n7⟩:=q7; exact again I7 n7
  | brk=>obtain ⟨σ7,H7,I7,q7⟩:=q7; exact ⟨σ7,H7,I7.unpinned,q7⟩
  | ret v=>obtain ⟨x7,σ7,H7,I7,r7,q7⟩:=q7; exact ⟨x7,σ7,H7,I7.unpinned,r7,q7⟩
end
theorem kM {K:ae} {a:aa} {xs:List V} {g:TG} {tb:TS} {D:kL} {σ:St} {H:Hp} (Pv:Nat->St->Hp->Prop) (h0:Pv 0 σ H) (hl:∀ i σ H,i<=xs.length->Pv i σ H->SqL K H a xs)
  (hs:∀ i x σ H,xs[i]?=some x->Pv i σ H->g x σ H fun σ2 H2=>tb {D with nx:=Pv (i + 1),ct:=Pv (i + 1),bk:=D.nx} σ2 H2) (hd:∀ σ H,Pv xs.length σ H->D.nx σ H) :
  ∃ W:Nat->Nat->St->Hp->Prop,(∃ m,W 0 m σ H)/\∀ i m σ H,W i m σ H ->
   ((Itl K a).stop i H/\D.nx σ H)\/((Itl K a).go i H/\∃ N:St->Hp->Prop,(∀ σ' H',N σ' H'->∃ m',m' < m/\W (i + 1) m' σ' H')/\∀ x H',(Itl K a).yld i H x H'->g x σ H' fun σ2 H2=>tb {D with nx:=N,ct:=N,bk:=D.nx} σ2 H2):=by
 refine ⟨fun i m σ H=>m=xs.length - i/\i<=xs.length/\Pv i σ H,⟨xs.length,by simp,bH _,h0⟩,?_⟩;rintro i m σ H ⟨rfl,hi,p⟩;have q:=hl i σ H hi p
 by_cases hlt:i < xs.length
 ·refine .inr ⟨⟨xs,xs[i],q,by simp [hlt]⟩,Pv (i + 1),fun σ' H' p'=>⟨xs.length - (i + 1),by omega,rfl,hlt,p'⟩,fun x H' y=>?_⟩;obtain ⟨e,y⟩:=y;subst e;exact hs i x σ _ (y xs q) p
 ·have e:i=xs.length:=by omega
  subst e;exact .inl ⟨⟨xs,q,aE _⟩,hd σ H p⟩
theorem kH {lo:Int} {n:Nat} {g:TG} {tb:TS} {D:kL} {σ:St} {H:Hp} (Pv:Nat->St->Hp->Prop) (h0:Pv 0 σ H)
  (hs:∀ i σ H,i < n->Pv i σ H->g (.int (lo + i)) σ H fun σ2 H2=>tb {D with nx:=Pv (i + 1),ct:=Pv (i + 1),bk:=D.nx} σ2 H2) (hd:∀ σ H,Pv n σ H->D.nx σ H) :
  ∃ W:Nat->Nat->St->Hp->Prop,(∃ m,W 0 m σ H)/\∀ i m σ H,W i m σ H ->
   ((Itr lo n).stop i H/\D.nx σ H)\/((Itr lo n).go i H/\∃ N:St->Hp->Prop,(∀ σ' H',N σ' H'->∃ m',m' < m/\W (i + 1) m' σ' H')/\∀ x H',(Itr lo n).yld i H x H'->g x σ H' fun σ2 H2=>tb {D with nx:=N,ct:=N,bk:=D.nx} σ2 H2):=by
 refine ⟨fun i m σ H=>m=n - i/\i<=n/\Pv i σ H,⟨n,by simp,bH _,h0⟩,?_⟩;rintro i m σ H ⟨rfl,hi,p⟩
 by_cases hlt:i < n
 ·refine .inr ⟨hlt,Pv (i + 1),fun σ' H' p'=>⟨n - (i + 1),by omega,rfl,hlt,p'⟩,fun x H' y=>?_⟩;obtain ⟨e,y⟩:=y;subst e y;exact hs i σ _ hlt p
 ·have e:i=n:=by omega
  subst e;exact .inl ⟨aE _,hd σ H p⟩
theorem yH {c:TT} {tb:TS} {D:kL} {σ:St} {H:Hp} (Pv:St->Hp->Prop) (μ:St->Hp->Nat) (h0:Pv σ H)
  (hs:∀ σ H,Pv σ H->c σ H fun b H1=>if b=true then tb {D with nx:=fun σ' H'=>Pv σ' H'/\μ σ' H' < μ σ H,ct:=fun σ' H'=>Pv σ' H'/\μ σ' H' < μ σ H,bk:=D.nx} σ H1 else D.nx σ H1)
  (mono:∀ σ H Q Q',(∀ b H1,Q b H1->Q' b H1)->c σ H Q->c σ H Q'):D0 c tb D σ H:=by
 refine ⟨fun m σ H=>m=μ σ H/\Pv σ H,⟨_,rfl,h0⟩,?_⟩;rintro m σ H ⟨rfl,p⟩;refine mono σ H _ _ (fun b H1 q=>?_) (hs σ H p)
 cases b with
 | true=>exact ⟨_,fun σ' H' ⟨p',l⟩=>⟨_,l,rfl,p'⟩,q⟩
 | false=>exact q
abbrev R2:=V->V->Hp->VK->Prop
def OpR (X:Cx) (f:af->af->Sem af) (r:R2):Prop:=
 ∀ (pins:List (aa×Obj)) (s:ar) (σ:St) (H:Hp) (x y:V) (v u:af) (Q:VK),Inv X pins σ H s->RelV x v->RelV y u->r x y H Q ->
  aW (bJ X.prog X.w) X.A (f v u) (EP X pins σ Q) X.xe s
def UnR (X:Cx) (f:af->Sem af) (r:V->Hp->VK->Prop):Prop:=
 ∀ (pins:List (aa×Obj)) (s:ar) (σ:St) (H:Hp) (x:V) (v:af) (Q:VK),Inv X pins σ H s->RelV x v->r x H Q ->
  aW (bJ X.prog X.w) X.A (f v) (EP X pins σ Q) X.xe s
def oQ (X:Cx) (f:af) (r:List V->Hp->VK->Prop):Prop:=
 ∀ (pins:List (aa×Obj)) (s:ar) (σ:St) (H:Hp) (xs:List V) (us:List af) (Q:VK),Inv X pins σ H s->cX xs us->r xs H Q ->
  aW (bJ X.prog X.w) X.A (xr f us) (EP X pins σ Q) X.xe s
def TruR (X:Cx) (r:V->Hp->(Bool->Hp->Prop)->Prop):Prop:=
 ∀ (pins:List (aa×Obj)) (s:ar) (σ:St) (H:Hp) (x:V) (v:af) (Q:Bool->Hp->Prop),Inv X pins σ H s->RelV x v->r x H Q ->
  aW (bJ X.prog X.w) X.A (truthy v) (TP X pins σ Q) X.xe s
def tOp (r:R2) (ta tb:TE):TE:=fun σ H Q=>ta σ H fun x H1=>tb σ H1 fun y H2=>r x y H2 Q
def tUn (r:V->Hp->VK->Prop) (ta:TE):TE:=fun σ H Q=>ta σ H fun x H1=>r x H1 Q
inductive RI (C:Int->Int->Prop) (g:Int->Int->V) (x y:V) (H:Hp) (Q:VK):Prop where
 | mk (i j:Int) (hx:x=.int i) (hy:y=.int j) (c:C i j) (q:Q (g i j) H):RI C g x y H Q
def rI (C:Int->Int->Prop) (g:Int->Int->V):R2:=fun x y H Q=>RI C g x y H Q
inductive RI0 (g:Int->Int->V) (x y:V) (H:Hp) (Q:VK):Prop where
 | mk (i j:Int) (hx:x=.int i) (hy:y=.int j) (q:Q (g i j) H):RI0 g x y H Q
def rI0 (g:Int->Int->V):R2:=fun x y H Q=>RI0 g x y H Q
inductive RU (g:Int->V) (x:V) (H:Hp) (Q:VK):Prop where
 | mk (i:Int) (hx:x=.int i) (q:Q (g i) H):RU g x H Q
def rU (g:Int->V):V->Hp->VK->Prop:=fun x H Q=>RU g x H Q
section
variable {X:Cx} {a b c:cZ} {ta tb tc:TE} {pos:Pos}
theorem KC (ha:PE X a ta) (hb:PE X b tb) {pins:List (aa×Obj)} {s:ar} {σ:St} {H:Hp} {R:V->V->Hp->Prop} (I:Inv X pins σ H s)
  (h:ta σ H fun x H1=>tb σ H1 fun y H2=>R x y H2) {Q:af->ar->Prop} {f:af->af->Sem af}
  (hf:∀ v u s2 x y H2,Inv X pins σ H2 s2->RelV x v->RelV y u->R x y H2->aW (bJ X.prog X.w) X.A (f v u) Q X.xe s2) :
  aW (bJ X.prog X.w) X.A (fy a X.env) (fun v s₁=>aW (bJ X.prog X.w) X.A (fy b X.env) (fun u s₂=>aW (bJ X.prog X.w) X.A (f v u) Q X.xe s₂) X.xe s₁) X.xe s:=by
 refine thn (ha pins s σ H _ I h) fun v s1 ⟨x,H1,I1,r1,q1⟩=>?_;refine thn (hb pins s1 σ H1 _ I1 q1) fun u s2 ⟨y,H2,I2,r2,q2⟩=>?_;exact hf v u s2 x y H2 I2 r1 r2 q2
theorem cC {op:Ho} {r:R2} (ho:OpR X (ij op) r) (ha:PE X a ta) (hb:PE X b tb):PE X (.BinOp a op b pos) (tOp r ta tb):=by
 intro pins s σ H Q I h;exact wpAny_BinOp (KC ha hb I h fun v u s2 x y H2 I2 rx ry q=>ho pins s2 σ H2 x y v u Q I2 rx ry q)
theorem wg {op:UnaryOp} {r:V->Hp->VK->Prop} (ho:UnR X (unaryOp op) r) (ha:PE X a ta):PE X (.UnaryOp op a pos) (tUn r ta):=by
 intro pins s σ H Q I h;exact UnaryOp_ (thn (ha pins s σ H _ I h) fun v s1 ⟨x,H1,I1,r1,q1⟩=>ho pins s1 σ H1 x v Q I1 r1 q1)
theorem opI {f:af->af->Sem af} {C:Int->Int->Prop} {g:Int->Int->Int}
  (Hq:∀ (i j:Int) (t u:Tok) (s:ar) (Q:af->ar->Prop) (E:af->ar->Prop),C i j->Q (.int (g i j) s.toks) {s with toks:=s.toks + 1}->aW (bJ X.prog X.w) X.A (f (.int i t) (.int j u)) Q E s) :
  OpR X f (rI C fun i j=>.int (g i j)):=by
 intro pins s σ H x y v u Q I rx ry h;obtain ⟨i,j,rfl,rfl,hc,q⟩:=h;obtain ⟨t,rfl⟩:=rx;obtain ⟨t',rfl⟩:=ry;exact Hq i j t t' s _ _ hc ⟨.int (g i j),H,I.tok _,⟨_,rfl⟩,q⟩
theorem opI0 {f:af->af->Sem af} {g:Int->Int->Int}
  (Hq:∀ (i j:Int) (t u:Tok) (s:ar) (Q:af->ar->Prop) (E:af->ar->Prop),Q (.int (g i j) s.toks) {s with toks:=s.toks + 1}->aW (bJ X.prog X.w) X.A (f (.int i t) (.int j u)) Q E s) :
  OpR X f (rI0 fun i j=>.int (g i j)):=by
 intro pins s σ H x y v u Q I rx ry h;obtain ⟨i,j,rfl,rfl,q⟩:=h;obtain ⟨t,rfl⟩:=rx;obtain ⟨t',rfl⟩:=ry;exact Hq i j t t' s _ _ ⟨.int (g i j),H,I.tok _,⟨_,rfl⟩,q⟩
theorem Hr {f:af->af->Sem af} {g:Int->Int->Bool}
  (Hq:∀ (i j:Int) (t u:Tok) (s:ar) (Q:af->ar->Prop) (E:af->ar->Prop),Q (.bool (g i j)) s->aW (bJ X.prog X.w) X.A (f (.int i t) (.int j u)) Q E s) :
  OpR X f (rI0 fun i j=>.bl (g i j)):=by
 intro pins s σ H x y v u Q I rx ry h;obtain ⟨i,j,rfl,rfl,q⟩:=h;obtain ⟨t,rfl⟩:=rx;obtain ⟨t',rfl⟩:=ry;exact Hq i j t t' s _ _ ⟨.bl (g i j),H,I,rfl,q⟩
def CDiv (i j:Int):Prop:=0 < j/\j < 1073741824
def Ef (i j:Int):Prop:=0<=j/\j<=1000000/\i.natAbs < 2 ^ 64
def KD (i j:Int):Prop:=(-(2 ^ 64) < i/\i < 2 ^ 64)\/(-(2 ^ 64) < j/\j < 2 ^ 64)
theorem KD.ok {i j:Int} (h:KD i j):IntMulOk i j:=by
 rcases h with ⟨h1,h2⟩ | ⟨h1,h2⟩
 ·exact .of_left (intBits_le_64 h1 h2)
 ·exact .of_right (intBits_le_64 h1 h2)
theorem ff:OpR X (ij .Add) (rI0 fun i j=>.int (i + j)):=opI0 fun _ _ _ _ _ _ _ q=>add_int q
theorem kN:OpR X (ij .Sub) (rI0 fun i j=>.int (i - j)):=opI0 fun _ _ _ _ _ _ _ q=>sub_int q
theorem oR:OpR X (ij .Mult) (rI KD fun i j=>.int (i * j)):=opI fun _ _ _ _ _ _ _ hc q=>mul_int q hc.ok
theorem xt:OpR X (ij .FloorDiv) (rI CDiv fun i j=>.int (i / j)):=opI fun i j _ _ _ _ _ hc q=>by
 have h1:(0:Int) < j:=hc.1;have h2:j < 1073741824:=hc.2;exact Eg (by omega) (by rw [xu i (by omega)]; exact q) (.inl (PyProof.noPylong_small (by omega)))
theorem lX:OpR X (ij .Mod) (rI (fun _ j=>0 < j) fun i j=>.int (i % j)):=opI fun i j _ _ _ _ _ hc q=>by
 have h1:(0:Int) < j:=hc;exact mod_int' (by omega) (by rw [Int.fmod_eq_emod_of_nonneg i (by omega)]; exact q)
theorem Hs:OpR X (ij .Mod) (rI (fun _ j=>j≠0) fun i j=>.int (i.fmod j)):=opI fun _ _ _ _ _ _ _ hc q=>mod_int' hc q
theorem xw:OpR X (ij .Pow) (rI Ef fun i j=>.int (i ^ j.toNat)):=opI fun _ _ _ _ _ _ _ hc q=>pow_int_small hc.1 hc.2.1 hc.2.2 q
theorem unI {f:af->Sem af} {g:Int->Int}
  (Hq:∀ (i:Int) (t:Tok) (s:ar) (Q:af->ar->Prop) (E:af->ar->Prop),Q (.int (g i) s.toks) {s with toks:=s.toks + 1}->aW (bJ X.prog X.w) X.A (f (.int i t)) Q E s) :
  UnR X f (rU fun i=>.int (g i)):=by
 intro pins s σ H x v Q I rx h;obtain ⟨i,rfl,q⟩:=h;obtain ⟨t,rfl⟩:=rx;exact Hq i t s _ _ ⟨.int (g i),H,I.tok _,⟨_,rfl⟩,q⟩
theorem sI:UnR X (unaryOp .USub) (rU fun i=>.int (-i)):=unI fun _ _ _ _ _ q=>neg_int q
end
def scal:V->V->Bool
 | .non,.non=>true | .non,.int _=>true | .int _,.non=>true | .non,.bl _=>true | .bl _,.non=>true | .non,.str _=>true | .str _,.non=>true
 | .int _,.int _=>true | .bl _,.bl _=>true | .str _,.str _=>true | .byt _,.byt _=>true
 | .int _,.str _=>true | .str _,.int _=>true | .bl _,.str _=>true | .str _,.bl _=>true
 | _,_=>false
def rEq:R2:=fun x y H Q=>scal x y=true/\Q (.bl (decide (x=y))) H
def rNe:R2:=fun x y H Q=>scal x y=true/\Q (.bl (!decide (x=y))) H
theorem A1 {i j:Int}:decide (V.int i=V.int j)=(i == j):=by
 rw [oS];simp
theorem Eh {i j:Bool}:decide (V.bl i=V.bl j)=(i == j):=by
 rw [oS];simp
theorem A2 {i j:Str}:decide (V.str i=V.str j)=(i == j):=by
 rw [oS];simp
theorem A3 {i j:Array UInt8}:decide (V.byt i=V.byt j)=(i.toList == j.toList):=by
 rw [oS]
 cases i
 cases j;simp
section
variable {X:Cx} {a b c:cZ} {ta tb tc:TE} {pos:Pos}
theorem eA {pins:List (aa×Obj)} {σ:St} {H:Hp} {s:ar} {Q:VK} {k k':Bool} (I:Inv X pins σ H s) (q:Q (.bl k) H) (e:k=k'):EP X pins σ Q (.bool k') s:=by
 subst e;exact ⟨.bl k,H,I,rfl,q⟩
theorem eG:OpR X (dZ .Eq) rEq:=by
 intro pins s σ H x y v u Q I rx ry h;obtain ⟨hs,q⟩:=h
 cases x with
 | non =>
  cases rx
  cases y with
  | non=>cases ry; exact PySem.EqNone.eq_none_none (eA I q (by simp))
  | bl j=>cases ry; exact PySem.EqNone.eq_none_bool (eA I q (by simp))
  | int j=>obtain ⟨t',rfl⟩:=ry; exact PySem.EqNone.eq_none_int (eA I q (by simp))
  | str j=>obtain ⟨t',rfl⟩:=ry; exact PySem.EqNone.eq_none_str (eA I q (by simp))
  | _=>exact absurd (show false=true from hs) cg
 | bl i =>
  cases rx
  cases y with
  | non=>cases ry; exact PySem.EqNone.eq_bool_none (eA I q (by simp))
  | bl j=>cases ry; exact eq_bool (eA I q Eh)
  | str j=>obtain ⟨t',rfl⟩:=ry; exact PySem.EqMixed.eq_bool_str (eA I q (by simp))
  | _=>exact absurd (show false=true from hs) cg
 | int i =>
  obtain ⟨t,rfl⟩:=rx
  cases y with
  | non=>cases ry; exact PySem.EqNone.eq_int_none (eA I q (by simp))
  | int j=>obtain ⟨t',rfl⟩:=ry; exact eq_int (eA I q A1)
  | str j=>obtain ⟨t',rfl⟩:=ry; exact PySem.EqMixed.eq_int_str (eA I q (by simp))
  | _=>exact absurd (show false=true from hs) cg
 | str i =>
  obtain ⟨t,rfl⟩:=rx
  cases y with
  | non=>cases ry; exact PySem.EqNone.eq_str_none (eA I q (by simp))
  | bl j=>cases ry; exact PySem.EqMixed.eq_str_bool (eA I q (by simp))
  | int j=>obtain ⟨t',rfl⟩:=ry; exact PySem.EqMixed.eq_str_int (eA I q (by simp))
  | str j=>obtain ⟨t',rfl⟩:=ry; exact eq_str (eA I q A2)
  | _=>exact absurd (show false=true from hs) cg
 | byt i =>
  obtain ⟨t,rfl⟩:=rx
  cases y with
  | byt j=>obtain ⟨t',rfl⟩:=ry; exact PySem.W.eq_bytes (eA I q A3)
  | _=>exact absurd (show false=true from hs) cg
 | _=>cases y <;> exact absurd (show false=true from hs) cg
theorem op_ne:OpR X (dZ .NotEq) rNe:=by
 intro pins s σ H x y v u Q I rx ry h;obtain ⟨hs,q⟩:=h
 cases x with
 | non =>
  cases rx
  cases y with
  | non=>cases ry; exact PySem.EqNone.ne_none_none (eA I q (by simp))
  | bl j=>cases ry; exact PySem.EqNone.ne_none_bool (eA I q (by simp))
  | int j=>obtain ⟨t',rfl⟩:=ry; exact PySem.EqNone.ne_none_int (eA I q (by simp))
  | str j=>obtain ⟨t',rfl⟩:=ry; exact PySem.EqNone.ne_none_str (eA I q (by simp))
  | _=>exact absurd (show false=true from hs) cg
 | bl i =>
  cases rx
  cases y with
  | non=>cases ry; exact PySem.EqNone.ne_bool_none (eA I q (by simp))
  | bl j=>cases ry; exact ne_bool (eA I q (congrArg not Eh))
  | str j=>obtain ⟨t',rfl⟩:=ry; exact PySem.EqMixed.ne_bool_str (eA I q (by simp))
  | _=>exact absurd (show false=true from hs) cg
 | int i =>
  obtain ⟨t,rfl⟩:=rx
  cases y with
  | non=>cases ry; exact PySem.EqNone.ne_int_none (eA I q (by simp))
  | int j=>obtain ⟨t',rfl⟩:=ry; exact ne_int (eA I q (congrArg not A1))
  | str j=>obtain ⟨t',rfl⟩:=ry; exact PySem.EqMixed.ne_int_str (eA I q (by simp))
  | _=>exact absurd (show false=true from hs) cg
 | str i =>
  obtain ⟨t,rfl⟩:=rx
  cases y with
  | non=>cases ry; exact PySem.EqNone.ne_str_none (eA I q (by simp))
  | bl j=>cases ry; exact PySem.EqMixed.ne_str_bool (eA I q (by simp))
  | int j=>obtain ⟨t',rfl⟩:=ry; exact PySem.EqMixed.ne_str_int (eA I q (by simp))
  | str j=>obtain ⟨t',rfl⟩:=ry; exact ne_str (eA I q (congrArg not A2))
  | _=>exact absurd (show false=true from hs) cg
 | byt i =>
  obtain ⟨t,rfl⟩:=rx
  cases y with
  | byt j=>obtain ⟨t',rfl⟩:=ry; exact PySem.W.ne_bytes (eA I q (congrArg not A3))
  | _=>exact absurd (show false=true from hs) cg
 | _=>cases y <;> exact absurd (show false=true from hs) cg
theorem uP:OpR X (dZ .Lt) (rI0 fun i j=>.bl (decide (i < j))):=Hr fun _ _ _ _ _ _ _ q=>lt_int q
theorem op_le:OpR X (dZ .LtE) (rI0 fun i j=>.bl (decide (i<=j))):=Hr fun _ _ _ _ _ _ _ q=>le_int q
theorem wj:OpR X (dZ .Gt) (rI0 fun i j=>.bl (decide (j < i))):=Hr fun _ _ _ _ _ _ _ q=>gt_int q
theorem op_ge:OpR X (dZ .GtE) (rI0 fun i j=>.bl (decide (j<=i))):=Hr fun _ _ _ _ _ _ _ q=>ge_int q
theorem cj (b:cZ) {op:MH} (h:op≠.In:=by decide) (h2:op≠.NotIn:=by decide):jH op b=false:=by
 have e1:(op == CmpOp.In)=false:=by cases op <;> first | rfl | exact absurd rfl h
 have e2:(op == CmpOp.NotIn)=false:=by cases op <;> first | rfl | exact absurd rfl h2
 cases b <;> simp [jH,e1,e2]
theorem nv {op:MH} {r:R2} (ho:OpR X (dZ op) r) (ha:PE X a ta) (hb:PE X b tb) (hm:jH op b=false):PE X (.Compare a [op] [b] pos) (tOp r ta tb):=by
 intro pins s σ H Q I h;exact wpAny_Compare1 (KC ha hb I h fun v u s2 x y H2 I2 rx ry q=>ho pins s2 σ H2 x y v u Q I2 rx ry q) hm
def yI (t:TE):TT:=fun σ H Q=>t σ H fun x H'=>BlI x H' Q
theorem bM {op:MH} {r:R2} (ho:OpR X (dZ op) r) (ha:PE X a ta) (hb:PE X b tb) (hm:jH op b=false):PT X (.Compare a [op] [b] pos) (yI (tOp r ta tb)):=by
 intro pins s σ H Q I h;refine He (thn (ha pins s σ H _ I h) fun v s1 ⟨x,H1,I1,r1,q1⟩=>thn (hb pins s1 σ H1 _ I1 q1) fun u s2 ⟨y,H2,I2,r2,q2⟩ =>
  thn (ho pins s2 σ H2 x y v u _ I2 r1 r2 q2) fun c s3 ⟨z,H3,I3,r3,k,e,q3⟩=>?_) hm
 subst e
 cases r3;exact iW ⟨H3,I3,q3⟩
def TruV (K:ae) (x:V) (H:Hp) (k:Bool):Prop:=
 match x with
 | .non=>k=false
 | .bl b=>k=b
 | .int i=>k=(i != 0)
 | .str y=>y.length<=au/\k=((y.length:Int) != 0)
 | .byt y=>y.size<=au/\k=((y.size:Int) != 0)
 | .ref p=>(∃ xs,SqL K H p xs/\k=!xs.isEmpty)\/(∃ xs,SqT K H p xs/\k=!xs.isEmpty)\/∃ kvs,H p=some (.dK kvs)/\k=!kvs.isEmpty
 | _=>False
theorem zL {κ:Type} {kvs:List (κ×V)} {vs:List (κ×af)} (r:KV kvs vs):(!vs.isEmpty)=!kvs.isEmpty:=by
 cases r <;> rfl
theorem uQ {xs:List V} {its:List af} (r:cX xs its):(!its.toArray.isEmpty)=!xs.isEmpty:=by
 cases r <;> simp
theorem sJ:(au:Nat) < 2 ^ 63:=by rw [oJ]; decide
theorem KF:TruR X (fun x H Q=>∃ k,TruV X.K x H k/\Q k H):=by
 intro pins s σ H x v Q I rx h;obtain ⟨k,e,q⟩:=h;have hl:=sJ;have hs:au=16777216:=oJ
 cases x with
 | non =>
  cases rx;have e':k=false:=e;subst e';exact truthy_none ⟨H,I,q⟩
 | bl b =>
  cases rx;have e':k=b:=e;subst e';exact iW ⟨H,I,q⟩
 | int i =>
  obtain ⟨t,rfl⟩:=rx;have e':k=(i != 0):=e;subst e';exact PySem.P.truthy_int ⟨H,I,q⟩
 | str y =>
  obtain ⟨t,rfl⟩:=rx;obtain ⟨hy,e'⟩:y.length<=au/\k=((y.length:Int) != 0):=e;subst e';exact PySem.P.truthy_str (by omega) ⟨H,I.tok _,q⟩
 | byt y =>
  obtain ⟨t,rfl⟩:=rx;obtain ⟨hy,e'⟩:y.size<=au/\k=((y.size:Int) != 0):=e;subst e';exact PySem.W.truthy_bytes (by omega) ⟨H,I.tok _,q⟩
 | ref p =>
  cases rx;have e':(∃ xs,SqL X.K H p xs/\k=!xs.isEmpty)\/(∃ xs,SqT X.K H p xs/\k=!xs.isEmpty)\/∃ kvs,H p=some (.dK kvs)/\k=!kvs.isEmpty:=e
  rcases e' with ⟨xs,hx,e'⟩ | ⟨xs,hx,e'⟩ | ⟨kvs,hx,e'⟩
  ·subst e';obtain ⟨its,r,pl,hz⟩:=I.list hx;have hlen:=r.length;exact wpAny_truthy_list pl.isList (by simp only [aB]; omega) ⟨H,I.tok _,by rw [uQ r]; exact q⟩
  ·subst e';obtain ⟨its,r,pl,hz⟩:=I.tuple hx;have hlen:=r.length;exact truthy_tuple pl (by simp only [aB]; omega) ⟨H,I.tok _,by rw [uQ r]; exact q⟩
  ·subst e';obtain ⟨hz,hS,vs,r,m⟩:kvs.length<=au/\(p == fj)=false/\∃ vs,KV kvs vs/\s.heap.DictOf (fK X.prog X.w) p vs:=I.hok p _ hx;have hlen:kvs.length=vs.length:=aX r;exact wpAny_truthy_dict hS m (by omega) ⟨H,I.tok _,by rw [zL r]; exact q⟩
 | _=>exact (show False from e).elim
theorem uR (ha:PE X a ta) (he:∀ whole,DQ a X.env whole=(do let v <- whole; vK a.pos; qB [v] (truthy v))) :
  PT X a (fun σ H Q=>ta σ H fun x H'=>∃ k,TruV X.K x H' k/\Q k H'):=by
 intro pins s σ H Q I h;exact isTrue_plain (thn (ha pins s σ H _ I h) fun v s1 ⟨x,H1,I1,r1,q1⟩=>KF pins s1 σ H1 x v Q I1 r1 q1) (he _)
theorem zM:OpR X (ij .Add) (fun x y H Q=>∃ i j,x=.str i/\y=.str j/\i.length + j.length<=au/\Q (.str (i++j)) H):=by
 intro pins s σ H x y v u Q I rx ry h;obtain ⟨i,j,rfl,rfl,hz,q⟩:=h;obtain ⟨t,rfl⟩:=rx;obtain ⟨t',rfl⟩:=ry;exact add_str (fun t' tk=>⟨.str (i++j),H,I.tok _,⟨_,rfl⟩,q⟩) hz
theorem vals1 {x:V} {us:List af} (r:cX [x] us):∃ u,us=[u]/\RelV x u:=by
 cases r with
 | cons r1 r2=>cases r2; exact ⟨_,rfl,r1⟩
theorem vals2 {x y:V} {us:List af} (r:cX [x,y] us):∃ u w',us=[u,w']/\RelV x u/\RelV y w':=by
 cases r with
 | cons r1 r2 =>
  cases r2 with
  | cons r3 r4=>cases r4; exact ⟨_,_,rfl,r1,r3⟩
theorem yJ:oQ X (.builtin "abs") (fun xs H Q=>∃ i,xs=[.int i]/\Q (.int (if i < 0 then -i else i)) H):=by
 intro pins s σ H xs us Q I r h;obtain ⟨i,rfl,q⟩:=h;obtain ⟨u,rfl,t,rfl⟩:=vals1 r;exact call_abs_int fun u tk=>⟨.int (if i < 0 then -i else i),H,I.tok _,⟨_,rfl⟩,q⟩
theorem pS:oQ X (.type "int") (fun xs H Q=>(∃ i,xs=[.int i]/\Q (.int i) H)\/∃ k,xs=[.bl k]/\Q (.int (if k then 1 else 0)) H):=by
 intro pins s σ H xs us Q I r h
 rcases h with ⟨i,rfl,q⟩ | ⟨k,rfl,q⟩
 ·obtain ⟨u,rfl,t,rfl⟩:=vals1 r;exact call_int_int ⟨.int i,H,I,⟨_,rfl⟩,q⟩
 ·obtain ⟨u,rfl,r1⟩:=vals1 r
  cases r1;exact call_int_bool ⟨.int (if k then 1 else 0),H,I.tok _,⟨_,rfl⟩,q⟩
end
structure zN (h:cF) (x dx C:aa) (mA:Str->Option af):Prop where
 obj:h.get? x=some (gL C dx)
 ns:h.Ns1 dx mA
 ne:dx≠x
theorem Ck {h:cF} {dx:aa} {mA:Str->Option af} (n:h.Ns1 dx mA):∃ od,h.get? dx=some od/\∀ name,oU name od=some (mA name):=by
 obtain ⟨o,es,ep,ho,hd,hk,_,hm⟩:=n;refine ⟨o,ho,fun name=>?_⟩;have e:=hm name;unfold nsFind findBy at e;rw [<- Array.find?_toList] at e;unfold oU;rw [hd];dsimp only
 split
 ·rename_i y q
  rw [q] at e;exact congrArg some e
 ·rename_i q
  rw [q] at e;have a:es.toList.any (·.refKey)=false:=by
   rw [List.any_eq_false];intro y hy;obtain ⟨z,t,hkey⟩:=hk y (Array.mem_toList_iff.mp hy);simp [DictEntry.refKey,hkey]
  have a':¬ es.toList.any (·.refKey)=true:=by rw [a]; exact cg
  rw [if_neg a'];exact congrArg some e
theorem zN.look {h:cF} {x dx C:aa} {mA:Str->Option af} (I:zN h x dx C mA):∃ od,uS h x (gL C dx) C (some od)/\∀ name,oU name od=some (mA name):=
 let ⟨od,ho,hl⟩:=Ck I.ns
 ⟨od,⟨I.obj,rfl,rfl,ho⟩,hl⟩
section
variable {prog:aL} {w:bN} {A:bZ} {E:af->ar->Prop} {s:ar} {K:ae} {x dx C f:aa} {mA:Str->Option af} {name:Str} {v:af}
theorem Ht {expr:Bool} {Q:af->ar->Prop} (X:K.In s.heap) (I:zN s.heap x dx C mA) (hg:mB K C name=true) (hh:rf K C=true)
  (ha:aV K (.ref C) name=some none) (hv:mA name=some v) (hv':Cm v=true) (h:Q v {s with toks:=s.toks + 1}) :
  aW (bJ prog w) A (getAttr (.ref x) name expr) Q E s:=by
 obtain ⟨od,J,hl⟩:=I.look;exact PySem.W.get_value X J (qi hg).1 (PySem.W.findObj_own hh ha rfl (by rw [hl,hv])) hv' h
theorem Ei {pl:Sem Bool} {Q:af×List af->ar->Prop} (X:K.In s.heap) (I:zN s.heap x dx C mA) (hg:mB K C name=true)
  (hf:aV K (.ref C) name=some (some (.ref f))) (ht:nA K (.ref f)=true) (hv:mA name=none) (h:Q (.ref f,[.ref x]) s) :
  aW (bJ prog w) A (m9 (.ref x) name pl) Q E s:=by
 obtain ⟨od,J,hl⟩:=I.look;exact PySem.W.method_fn X J (qi hg).1 (qi hg).2 hf (beq_iff_eq.mp ht) (by show (oU name od).map (·.isSome)=some false; rw [hl,hv]; rfl) h
theorem Hu {ns:List Str} {Q:Unit->ar->Prop} (X:K.In s.heap) (I:zN s.heap x dx C mA)
  (hs:aV K (.ref C) "__setattr__"=some (some (.builtin "object.__setattr__"))) (hp:A4 K C=true) (ht:ua K C name=some none) (hh:rf K C=true)
  (hw:yE mA ns) (hsz:ns.length<=au)
  (h:∀ h',zN h' x dx C (fun y=>if y=name then some v else mA y)->oH dx s.heap h'->Q () {s with heap:=h',toks:=s.toks + 2}) :
  aW (bJ prog w) A (setAttr (.ref x) name v) Q E s:=by
 obtain ⟨od,J,hl⟩:=I.look;refine PySem.W.set_plain X J hs (PySem.W.osa_open (s:={s with toks:=s.toks + 1}) (r:=none) X J hp ht fun b=>?_);obtain ⟨cd,hc,hd'⟩:=PySem.W.any_some hh;have hx:s.heap.get? x=some ⟨.ref C,some dx,.plain,#[]⟩:=I.obj;refine aq (aP (aq (aq (wpAny_loadPart hx (aq (PySem.W.Looks.here (s:={s with toks:=s.toks + 1}) (PySem.W.looks_clsIn X hc) ?_))))));rw [hd'];refine aP (a:=some dx) (aq (aP (aq ?_)));refine wpAny_nsSet1 (s:={s with toks:=s.toks + 1}) I.ns fun h' hn2 hs2=>?_;obtain ⟨oD,esD,epD,hoD,hdD,hcD⟩:=hn2.count (PySem.Within.cons name v hw);refine aq (wpAny_lookBehind hoD (by rw [hdD]; exact pastItsLine_dict (dH hcD (by rw [aR]; omega))) ?_);exact aP (h _ ⟨(hs2.2 _ (fV I.ne)).trans I.obj,hn2,I.ne⟩ hs2)
theorem Ej {R:KG->ar->Prop} {vs:List af} {kw:List (Str×af)} (X:K.In s.heap) (hm:uc K C=true)
  (hi:aV K (.ref C) "__init__"=some (some (.ref f))) (hf:Ek K (.ref f)=some (.type "function"))
  (h:oK (bJ prog w) (A.under (.builtin "type.__call__" ⟨.ref C :: vs,kw⟩)) (.call (.ref f) ⟨.ref (s.heap.objs.size + 1) :: vs,kw⟩) (PySem.W.InitBack (s.heap.objs.size + 1) R)
   {s with heap:=(s.heap.push eU).push (gL C s.heap.objs.size)}) :
  oK (bJ prog w) A (.call (.ref C) ⟨vs,kw⟩) R s:=by
 obtain ⟨hh,g,d,t,os⟩:=s;exact PySem.W.make_core (PySem.W.makes_of X hm) (jZ X hi) (fun self=>PySem.W.bind_fn X self hf) (.inl rfl) h
end
def dM (f:Str) (v:V):List (Str×V)->List (Str×V)
 | []=>[(f,v)]
 |(g,x) :: r=>if g=f then (g,v) :: r else (g,x) :: dM f v r
theorem tN (f g:Str) (v:V):∀ fs:List (Str×V),(dM f v fs).lookup g=if g=f then some v else fs.lookup g
 | []=>by
  show kr g [(f,v)]=_
  by_cases h:g=f
  ·have hb:(g == f)=true:=beq_iff_eq.mpr h;simp only [kr,hb,if_pos h]
  ·have hb:(g == f)=false:=beq_eq_false_iff_ne.mpr h;simp only [kr,hb,if_neg h]
 |(k,x) :: r=>by
  have ih:=tN f g v r;rw [show dM f v ((k,x) :: r)=(if k=f then (k,v) :: r else (k,x) :: dM f v r) from rfl]
  by_cases hk:k=f
  ·rw [if_pos hk]
   by_cases h:g=k
   ·have hb:(g == k)=true:=beq_iff_eq.mpr h;simp only [kr,hb,if_pos (h.trans hk)]
   ·have hb:(g == k)=false:=beq_eq_false_iff_ne.mpr h;simp only [kr,hb,if_neg (fun e:g=f=>h (e.trans hk.symm))]
  ·rw [if_neg hk]
   by_cases h:g=k
   ·have hb:(g == k)=true:=beq_iff_eq.mpr h;simp only [kr,hb,if_neg (fun e:g=f=>hk (h.symm.trans e))]
   ·have hb:(g == k)=false:=beq_eq_false_iff_ne.mpr h;simp only [kr,hb];exact ih
theorem sL (f:Str) (v:V):∀ fs:List (Str×V),f∈(dM f v fs).map (·.1)/\∀ g,g∈fs.map (·.1)->g∈(dM f v fs).map (·.1)
 | []=>⟨by simp [dM],fun g h=>by simp at h⟩
 |(k,x) :: r=>by
  obtain ⟨i1,i2⟩:=sL f v r;rw [show dM f v ((k,x) :: r)=(if k=f then (k,v) :: r else (k,x) :: dM f v r) from rfl]
  by_cases hk:k=f
  ·rw [if_pos hk];subst hk;exact ⟨by simp,fun g h=>by simpa using h⟩
  ·rw [if_neg hk];refine ⟨?_,fun g h=>?_⟩
   ·rw [cu];exact ah _ i1
   ·rw [cu] at h |-
    rcases ay.mp h with e | e
    ·exact ay.mpr (.inl e)
    ·exact ah _ (i2 g e)
theorem tO (f:Str) (v:V):∀ fs:List (Str×V),(dM f v fs).length<=fs.length + 1
 | []=>by simp [dM]
 |(k,x) :: r=>by
  have ih:=tO f v r;rw [show dM f v ((k,x) :: r)=(if k=f then (k,v) :: r else (k,x) :: dM f v r) from rfl]
  by_cases hk:k=f
  ·rw [if_pos hk,aR,aR]; omega
  ·rw [if_neg hk,aR,aR]; omega
theorem qh.some_of {v:V} {o:Option af} (r:qh (some v) o):∃ u,o=some u/\RelV v u:=by
 cases o with
 | none=>exact (show False from r).elim
 | some u=>exact ⟨u,rfl,r⟩
theorem qh.none_of {o:Option af} (r:qh none o):o=none:=by
 cases o with
 | none=>rfl
 | some u=>exact (show False from r).elim
theorem Co {v:V} {u:af} (r:RelV v u):Cm u=true:=by
 cases v with
 | non=>cases (show u=Value.none from r); rfl
 | bl b=>cases (show u=Value.bool b from r); rfl
 | int i=>obtain ⟨t,e⟩:=(show ∃ t,u=Value.int i t from r); cases e; rfl
 | str x=>obtain ⟨t,e⟩:=(show ∃ t,u=Value.str x t from r); cases e; rfl
 | byt b=>obtain ⟨t,e⟩:=(show ∃ t,u=Value.bytes b t from r); cases e; rfl
 | flt b=>obtain ⟨t,e⟩:=(show ∃ t,u=Value.float b t from r); cases e; rfl
 | ref a=>cases (show u=Value.ref a from r); rfl
 | ty n=>cases (show u=Value.type n from r); rfl
section
variable {P:aL} {w:bN} {H H':Hp} {h h':cF} {a C dx:aa} {fs fs':List (Str×V)}
theorem uu (hok:HOk P w H h) (e:H a=some (.ins C dx fs)):∃ mA,zN h a dx C mA/\(∀ f,qh (fs.lookup f) (mA f))/\yE mA (fs.map (·.1))/\fs.length<=1000/\H dx=some (.own a):=by
 obtain ⟨d,z,ne,ob,mA,n,r,q⟩:=(show eE P w H h a (.ins C dx fs) from hok a _ e);exact ⟨mA,⟨ob,n,ne⟩,r,q,z,d⟩
end
structure Cls (K:ae) (C:aa):Prop where
 pg:mB K C Str.empty=true
 hd:rf K C=true
 po:A4 K C=true
 sa:aV K (.ref C) "__setattr__"=some (some (.builtin "object.__setattr__"))
theorem Cls.get {K:ae} {C:aa} (c:Cls K C) (f:Str):mB K C f=true:=c.pg
def eV (K:ae) (C:aa) (f:Str):Prop:=aV K (.ref C) f=some none
theorem eV.taker {K:ae} {C:aa} {f:Str} (n:eV K C f):ua K C f=some none:=by
 unfold ua;rw [show aV K (.ref C) f=some none from n];rfl
structure xx (K:ae) (C:aa) (m:Str) (f:aa):Prop where
 at_:aV K (.ref C) m=some (some (.ref f))
 fn:nA K (.ref f)=true
 kp:gB K (.ref f)=true
section
variable {X:Cx} {pins:List (aa×Obj)} {σ:St} {H:Hp} {s:ar} {a C dx:aa} {fs:List (Str×V)} {f:Str} {v:V} {A:bZ} {E:af->ar->Prop}
theorem uT {b:Bool} {Q:af->ar->Prop} (I:Inv X pins σ H s) (e:H a=some (.ins C dx fs)) (c:Cls X.K C) (n:eV X.K C f) (l:fs.lookup f=some v)
  (h:∀ u s',Inv X pins σ H s'->RelV v u->Q u s'):aW (bJ X.prog X.w) A (getAttr (.ref a) f b) Q E s:=by
 obtain ⟨mA,O,r,_,_,_⟩:=uu I.hok e;obtain ⟨u,hu,ru⟩:=qh.some_of (v:=v) (o:=mA f) (by rw [<- l]; exact r f);exact Ht I.kIn O (c.get f) c.hd n hu (Co ru) (h u _ (I.tok _) ru)
theorem qF {m:Str} {g:aa} {pl:Sem Bool} {Q:af×List af->ar->Prop} (I:Inv X pins σ H s) (e:H a=some (.ins C dx fs)) (c:Cls X.K C) (k:xx X.K C m g) (l:fs.lookup m=none)
  (h:Q (.ref g,[.ref a]) s):aW (bJ X.prog X.w) A (m9 (.ref a) m pl) Q E s:=by
 obtain ⟨mA,O,r,_,_,_⟩:=uu I.hok e;have hn:mA m=none:=qh.none_of (by rw [<- l]; exact r m);exact Ei I.kIn O (c.get m) k.at_ k.fn hn h
theorem uU {y:V} {u:af} {Q:Unit->ar->Prop} (I:Inv X pins σ H s) (e:H a=some (.ins C dx fs)) (c:Cls X.K C) (n:eV X.K C f) (hl:fs.length < 1000) (ry:RelV y u)
  (h:∀ s',Inv X pins σ (upd H a (.ins C dx (dM f y fs))) s'->Q () s'):aW (bJ X.prog X.w) A (setAttr (.ref a) f u) Q E s:=by
 obtain ⟨mA,O,r,wi,_,ho⟩:=uu I.hok e;have hz:(fs.map (·.1)).length<=au:=by rw [ai,oJ]; omega
 refine Hu I.kIn O c.sa c.po n.taker c.hd wi hz fun h' O' sb=>h _ ?_;have hd:∃ o,h'.get? dx=some o:=let ⟨o,_,_,e',_⟩:=O'.ns; ⟨o,e'⟩;refine I.write (x:=a) (e:=dx) (by rw [e]; exact True.intro) (.inr ho) (fun b q hb z=>(sb.2 b hb).trans z) hd ?_;refine ⟨by rw [aK O.ne]; exact ho,?_,O.ne,O'.obj,_,O'.ns,fun g=>?_,fun g hg=>?_⟩
 ·have:=tO f y fs; omega
 ·show qh ((dM f y fs).lookup g) (if g=f then some u else mA g);rw [tN]
  by_cases q:g=f
  ·rw [if_pos q,if_pos q]; exact ry
  ·rw [if_neg q,if_neg q]; exact r g
 ·by_cases q:g=f
  ·rw [q]; exact (sL f y fs).1
  ·refine (sL f y fs).2 g (wi g fun z=>hg ?_);show (if g=f then some u else mA g)=none;rw [if_neg q]; exact z
theorem Inv.made (I:Inv X pins σ H s):Inv X pins σ (upd (upd H s.heap.objs.size (.own (s.heap.objs.size + 1))) (s.heap.objs.size + 1) (.ins C s.heap.objs.size []))
  {s with heap:=(s.heap.push eU).push (gL C s.heap.objs.size)}:=by
 have e1:(s.heap.push eU).get? s.heap.objs.size=some eU:=cz s.heap rfl;have e2:((s.heap.push eU).push (gL C s.heap.objs.size)).get? (s.heap.objs.size + 1)=some (gL C s.heap.objs.size):=by
  have:=cz (s.heap.push eU) (o:=gL C s.heap.objs.size) rfl
  rwa [wx] at this
 have e3:(s.heap.push eU).Ns s.heap.objs.size (fun _=>none):=⟨eU,#[],_,e1,rfl,(fun e he=>absurd he (by simp)),fun _=>rfl⟩;have I1:=I.laid (a:=s.heap.objs.size) (o:=.own (s.heap.objs.size + 1)) (h':=s.heap.push eU) (t':=s.toks) (fun b u q=>aJ _ q) (aE _) ⟨_,e1⟩;refine I1.laid (a:=s.heap.objs.size + 1) (o:=.ins C s.heap.objs.size []) (t':=s.toks) (fun b u q=>aJ _ q) (Nat.le_of_eq (wx _ _)) ?_;have ne:s.heap.objs.size≠s.heap.objs.size + 1:=aN (uV _);refine ⟨by rw [aK ne,ag],bH _,ne,e2,fun _=>none,(Heap.Ns1.of_empty e3).at fun o q=>aJ _ q,fun _=>True.intro,fun y hy=>absurd rfl hy⟩
theorem Hv {prog:aL} {w:bN} {env:Env} {e:cZ} {f:Str} {pos:Pos} {s:ar} {Q:af->ar->Prop} (hb:lC e f env (fy e env)=fy e env)
  (h:aW (bJ prog w) A (fy e env) (fun o s₁=>aW (bJ prog w) A (getAttr o f true) Q E s₁) E s):aW (bJ prog w) A (fy (.Attribute e f pos) env) Q E s:=
 Attribute_any_ h (by rw [arm_eval_Attribute,hb])
end
inductive FldI (K:ae) (f:Str) (x:V) (H:Hp) (Q:VK):Prop where
 | mk (a C dx:aa) (fs:List (Str×V)) (v:V) (hx:x=.ref a) (h:H a=some (.ins C dx fs)) (c:Cls K C) (n:eV K C f) (e:fs.lookup f=some v) (q:Q v H):FldI K f x H Q
def KH (K:ae) (ta:TE) (f:Str):TE:=fun σ H Q=>ta σ H fun x H1=>FldI K f x H1 Q
def sFld (K:ae) (ta tv:TE) (f:Str):TS:=fun D σ H=>tv σ H fun y H1=>ta σ H1 fun x H2=>∃ a C dx fs,x=.ref a/\H2 a=some (.ins C dx fs)/\Cls K C/\eV K C f/\fs.length < 1000 /\
 D.nx σ (upd H2 a (.ins C dx (dM f y fs)))
def InOp (X:Cx) (op:Ho) (rd:V->V->Hp->VK->Prop):Prop:=
 ∀ (pins:List (aa×Obj)) (s:ar) (σ:St) (H:Hp) (x y:V) (u v:af) (Q:VK),Inv X pins σ H s->RelV x u->RelV y v->rd x y H Q->aW (bJ X.prog X.w) X.A (inplaceOp op u v) (EP X pins σ Q) X.xe s
def Hw (K:ae) (ta tv:TE) (rd:V->V->Hp->VK->Prop) (f:Str):TS:=fun D σ H=>ta σ H fun x H1=>∃ a C dx fs v,x=.ref a/\H1 a=some (.ins C dx fs)/\Cls K C/\eV K C f/\fs.lookup f=some v /\
 tv σ H1 fun y H2=>rd v y H2 fun z H3=>∃ dx' fs',H3 a=some (.ins C dx' fs')/\fs'.length < 1000/\D.nx σ (upd H3 a (.ins C dx' (dM f z fs')))
section
variable {X:Cx} {o e value:cZ} {f:Str} {pos pos' tpos:Pos} {ta tv:TE}
theorem cW (he:PE X e ta) (hb:lC e f X.env (fy e X.env)=fy e X.env):PE X (.Attribute e f pos) (KH X.K ta f):=by
 intro pins s σ H Q I h;refine Hv hb (thn (he pins s σ H _ I h) fun u s1 ⟨x,H1,I1,rx,a,C,dx,fs,v,ex,ea,c,n,l,q⟩=>?_);subst ex;obtain rfl:u=Value.ref a:=rx;exact uT I1 ea c n l fun u' s2 I2 ru=>⟨v,H1,I2,ru,q⟩
theorem gb (ha:PE X o ta) (hv:PE X value tv) (hs:tM value (some (.Attribute o f pos')) pos.line X.env=pure false):PS X (.Assign [.Attribute o f pos'] value pos) (sFld X.K ta tv f):=by
 intro pins s σ H D I h;refine plainObj_wpAny_Assign_Attribute (thn (hv pins s σ H _ I h) fun u s1 ⟨y,H1,I1,ry,q⟩=>thn (ha pins s1 σ H1 _ I1 q) fun ov s2 ⟨x,H2,I2,rx,a,C,dx,fs,ex,ea,c,n,l,q2⟩=>?_) hs;subst ex;obtain rfl:ov=Value.ref a:=rx;exact uU I2 ea c n l ry fun s3 I3=>⟨σ,_,I3,q2⟩
theorem wy {op:Ho} {rd:V->V->Hp->VK->Prop} (ha:PE X o ta) (hv:PE X value tv) (hop:InOp X op rd):PS X (.AugAssign (.Attribute o f tpos) op value pos) (Hw X.K ta tv rd f):=by
 intro pins s σ H D I h;refine wpAny_AugAssign_AttributeAny (thn (ha pins s σ H _ I h) fun ov s1 ⟨x,H1,I1,rx,a,C,dx,fs,v,ex,ea,c,n,l,q⟩=>?_);subst ex;obtain rfl:ov=Value.ref a:=rx;refine uT I1 ea c n l fun u s2 I2 ru=>thn (hv pins s2 σ H1 _ I2 q) fun w3 s3 ⟨y,H2,I3,ry,q3⟩=>thn (hop pins s3 σ H2 v y u w3 _ I3 ru ry q3) fun w4 s4 ⟨z,H3,I4,rz,dx',fs',ea',l',q4⟩=>?_;exact uU I4 ea' c n l' rz fun s5 I5=>⟨σ,_,I5,q4⟩
def rAdd:V->V->Hp->VK->Prop:=fun x y H Q=>∃ i j,x=.int i/\y=.int j/\Q (.int (i + j)) H
theorem El:InOp X .Add rAdd:=by
 rintro pins s σ H x y u v Q I rx ry ⟨i,j,rfl,rfl,q⟩;obtain ⟨t,rfl⟩:=(show ∃ t,u=Value.int i t from rx);obtain ⟨t',rfl⟩:=(show ∃ t',v=Value.int j t' from ry);exact PyProof.Rows.iadd_int ⟨.int (i + j),H,I.tok _,⟨_,rfl⟩,q⟩
theorem methcall_of {pl:Sem Bool} {m:Str} {apos:Pos} {args:List cZ} {pins:List (aa×Obj)} {s:ar} {σ:St} {H:Hp} {Q:af->ar->Prop} {te:TE} (he:PE X e te) (I:Inv X pins σ H s)
  (h:te σ H fun x H1=>∃ a C dx fs g,x=.ref a/\H1 a=some (.ins C dx fs)/\Cls X.K C/\xx X.K C m g/\fs.lookup m=none /\
   ∀ s1,Inv X pins σ H1 s1->aW (bJ X.prog X.w) X.A (zO pos (.ref g) [.ref a] (jd pos (cM args X.env)) (nC pos (je [] X.env))) Q X.xe s1)
  (ht:fy (.Call (.Attribute e m apos) args [] pos) X.env=(do
   let ov <- fy e X.env
   vK apos.atName
   let (f,first) <- qB [ov] (m9 ov m pl)
   zO pos f first (jd pos (cM args X.env)) (nC pos (je [] X.env)))) :
  aW (bJ X.prog X.w) X.A (fy (.Call (.Attribute e m apos) args [] pos) X.env) Q X.xe s:=by
 refine jM (pl:=pl) (thn (he pins s σ H _ I h) fun u s1 ⟨x,H1,I1,rx,a,C,dx,fs,g,ex,ea,c,k,l,q⟩=>?_) ht;subst ex;obtain rfl:u=Value.ref a:=rx;exact qF I1 ea c k l (q s1 I1)
end
section
variable {X:Cx} {pins:List (aa×Obj)} {σ:St} {H:Hp} {s:ar} {A:bZ} {E:af->ar->Prop} {Q:af->ar->Prop} {c:af} {b:Bool}
inductive sM (K:ae) (H:Hp):V->af->Prop where
 | non:sM K H .non (.type "NoneType")
 | bl (x:Bool):sM K H (.bl x) (.type "bool")
 | int (i:Int):sM K H (.int i) (.type "int")
 | str (x:Str):sM K H (.str x) (.type "str")
 | flt (x:UInt64):sM K H (.flt x) (.type "float")
 | lst {a:aa} {xs:List V} (e:H a=some (.lst xs)):sM K H (.ref a) (.type "list")
 | frz {a:aa} {o:Obj} {xs:List V} (e:H a=some (.frz o (.lst xs))):sM K H (.ref a) (.type "list")
 | tup {a:aa} {xs:List V} (e:H a=some (.tup xs)):sM K H (.ref a) (.type "tuple")
 | dK {a:aa} {kvs:List (Key×V)} (e:H a=some (.dK kvs)):sM K H (.ref a) (.type "dict")
 | dT {a:aa} {kvs:List (List Key×V)} (e:H a=some (.dT kvs)):sM K H (.ref a) (.type "dict")
 | ins {a C dx:aa} {fs:List (Str×V)} (e:H a=some (.ins C dx fs)) (cl:Cls K C) (ha:aV K (.ref C) "__class__"=some (some (.builtin "object.__class__")))
   (hn:A5 K (.builtin "object.__class__") "__get__"=some (some (.builtin "getset_descriptor.__get__"))) (htk:Dp K (.builtin "object.__class__")=some true)
   (hm:vM K C (.type "object")=some true):sM K H (.ref a) (.ref C)
theorem Cp {x:V} {u t:af} (I:Inv X pins σ H s) (rx:RelV x u) (ty:sM X.K H x t) (e:gC X.K t c=some b) (h:∀ tk,Q (.bool b) {s with toks:=tk}) :
  aW (bJ X.prog X.w) A (xr (.builtin "isinstance") [u,c]) Q E s:=by
 cases ty with
 | non=>cases (show u=Value.none from rx); exact eM PySem.W.kitx_none I.kIn True.intro e (fun z=>nomatch z) h
 | bl y=>cases (show u=Value.bool y from rx); exact eM PySem.W.kitx_bool I.kIn True.intro e (fun z=>nomatch z) h
 | int i=>obtain ⟨t,q⟩:=(show ∃ t,u=Value.int i t from rx); cases q; exact eM PySem.W.kitx_int I.kIn True.intro e (fun z=>nomatch z) h
 | str y=>obtain ⟨t,q⟩:=(show ∃ t,u=Value.str y t from rx); cases q; exact eM PySem.W.kitx_str I.kIn True.intro e (fun z=>nomatch z) h
 | flt y=>obtain ⟨t,q⟩:=(show ∃ t,u=Value.float y t from rx); cases q; exact eM PySem.W.kitx_float I.kIn True.intro e (fun z=>nomatch z) h
 | @lst a xs ea =>
  cases (show u=Value.ref a from rx);obtain ⟨_,_,n,_,h1⟩:=(show eE X.prog X.w H s.heap a (.lst xs) from I.hok a _ ea);exact eM A6 I.kIn ⟨_,h1,rfl⟩ e (fun z=>nomatch z) h
 | @frz a ob xs ea =>
  cases (show u=Value.ref a from rx);obtain ⟨_,_,_,n,_,h1⟩:=(show eE X.prog X.w H s.heap a (.frz ob (.lst xs)) from I.hok a _ ea);exact eM A6 I.kIn ⟨_,h1,rfl⟩ e (fun z=>nomatch z) h
 | @tup a xs ea =>
  cases (show u=Value.ref a from rx);obtain ⟨_,_,_,p⟩:=(show eE X.prog X.w H s.heap a (.tup xs) from I.hok a _ ea);obtain ⟨o,h1,h2,_⟩:=p;exact eM PySem.W.kitx_tuple I.kIn ⟨o,h1,h2⟩ e (fun z=>nomatch z) h
 | @dK a kvs ea =>
  cases (show u=Value.ref a from rx);obtain ⟨_,_,vs,_,p⟩:=(show eE X.prog X.w H s.heap a (.dK kvs) from I.hok a _ ea);obtain ⟨o,es,ep,h1,h2,_⟩:=p;exact eM A7 I.kIn ⟨o,h1,h2.1⟩ e (fun z=>nomatch z) h
 | @dT a kvs ea =>
  cases (show u=Value.ref a from rx);obtain ⟨_,_,xs,_,o,es,ep,h1,h2,_⟩:=(show eE X.prog X.w H s.heap a (.dT kvs) from I.hok a _ ea);exact eM A7 I.kIn ⟨o,h1,h2.1⟩ e (fun z=>nomatch z) h
 | @ins a C dx fs ea cl ha hn htk hm =>
  cases (show u=Value.ref a from rx);obtain ⟨mA,O,_⟩:=uu I.hok ea;obtain ⟨od,J,_⟩:=O.look;exact eM (PySem.W.kitx_own (cl.get _) cl.hd ha hn htk hm) I.kIn J e (fun z=>nomatch z) h
end
structure d5 (k:Nat) (A:bZ):Prop where
 hd:A.handled=none
 dp:A.depth + 3 * k + 5 < recursionLimit
 un:A.units + 16 * k + 200 < d8
theorem d5.mono {j k:Nat} {A:bZ} (r:d5 k A) (h:j<=k):d5 j A:=⟨r.hd,by have:=r.dp; omega,by have:=r.un; omega⟩
theorem d5.deeper {k:Nat} {A:bZ} (r:d5 (k + 1) A) (env:Env):d5 k (A.deeper env):=
 ⟨r.hd,by have:=r.dp; show A.depth + 1 + 3 * k + 5 < _; omega,by have:=r.un; show A.units + 3 + 16 * k + 200 < _; omega⟩
theorem zP {A:bZ} {C:aa} {us:List af} {kw:List (Str×af)}:(A.under (.builtin "type.__call__" ⟨.ref C :: us,kw⟩)).depth=A.depth + 1:=by
 first | rfl | simp [yo,Code.weight,Code.isCreation,Code.isGuard,Code.isCaller,Code.frames,zx,guardIds]
theorem zQ {A:bZ} {C:aa} {us:List af} {kw:List (Str×af)}:(A.under (.builtin "type.__call__" ⟨.ref C :: us,kw⟩)).units=A.units + 1:=by
 first | rfl | simp [yo,Code.cUnits,Code.frames,zx]
theorem d5.make {k:Nat} {A:bZ} (r:d5 (k + 1) A) (C:aa) (us:List af) (kw:List (Str×af)):d5 k (A.under (.builtin "type.__call__" ⟨.ref C :: us,kw⟩)):=
 ⟨r.hd,by have:=r.dp; rw [zP]; omega,by have:=r.un; rw [zQ]; omega⟩
theorem d5.depth {k:Nat} {A:bZ} (r:d5 k A):A.depth < recursionLimit:=by have:=r.dp; omega
theorem d5.units {k:Nat} {A:bZ} (r:d5 k A):A.units + 64 < d8:=by have:=r.un; omega
def zR:TA:=fun _ H Q=>Q [] H
def mC (ta:TE) (tr:TA):TA:=fun σ H Q=>ta σ H fun x H1=>tr σ H1 fun xs H2=>Q (x :: xs) H2
section
variable {X:Cx} {e:cZ} {es:List cZ} {te:TE} {t:TA} {pos:Pos}
theorem ao:PA X [] zR:=fun _ _ _ _ H Q I h=>Calls.spliced_nil ⟨[],H,I,.nil,h⟩
theorem av (ha:PE X e te) (hr:PA X es t) (hs:cM (e :: es) X.env=(false,fy e X.env) :: cM es X.env:=by rfl):PA X (e :: es) (mC te t):=by
 intro pos pins s σ H Q I h;rw [hs];show aW _ _ (spliced ((false,fy e X.env) :: jd pos (cM es X.env))) _ _ s;refine Calls.spliced_cons (thn (ha pins s σ H _ I h) fun u s1 ⟨x,H1,I1,r1,q1⟩=>?_);exact thn (hr pos pins s1 σ H1 _ I1 q1) fun us s2 ⟨xs,H2,I2,r2,q2⟩=>⟨x :: xs,H2,I2,.cons r1 r2,q2⟩
def tTup (t:TA):TE:=fun σ H Q=>t σ H fun xs H1=>xs.length<=au/\∀ p,H1 p=none->Q (.ref p) (upd H1 p (.tup xs))
def tLst (t:TA):TE:=fun σ H Q=>t σ H fun xs H1=>xs.length<=au/\∀ p,H1 p=none->Q (.ref p) (upd H1 p (.lst xs))
theorem cR {x1} (h:PA X es t):PE X (.Tuple es x1 pos) (tTup t):=by
 intro pins s σ H Q I hq;refine wpAny_Tuple_spliced (thn (h pos pins s σ H _ I hq) fun us s1 ⟨xs,H1,I1,r,z,q⟩=>⟨by rw [<- r.length]; exact z,?_⟩);have hf:H1 s1.heap.objs.size=none:=I1.hok.fresh (aE _);refine ⟨.ref s1.heap.objs.size,upd H1 s1.heap.objs.size (.tup xs),I1.laid (t':=s1.toks) (fun b u e=>aJ _ e) (aE _) ?_,rfl,q _ hf⟩;exact ⟨z,us,r,⟨_,cz _ rfl,rfl,_,rfl⟩⟩
theorem dh (h:PA X es t):PE X (.List es pos) (tLst t):=by
 intro pins s σ H Q I hq;refine wpAny_List_spliced (thn (h pos pins s σ H _ I hq) fun us s1 ⟨xs,H1,I1,r,z,q⟩=>⟨by rw [<- r.length]; exact z,?_⟩);have hf:H1 s1.heap.objs.size=none:=I1.hok.fresh (aE _);refine ⟨.ref s1.heap.objs.size,upd H1 s1.heap.objs.size (.lst xs),I1.laid (t':=s1.toks) (fun b u e=>aJ _ e) (aE _) ?_,rfl,q _ hf⟩;exact ⟨z,us,0,r,cz _ rfl⟩
end
abbrev Sp:=List V->Hp->VK->XK->Prop
abbrev CXT:=List Env->Hp->ar->XK->af->ar->Prop
structure xy (P:aL) (w:bN) (K:ae) (mg:Str->Option af) (base:cF) (A:bZ) (outer:List Env) (s:ar) (H:Hp):Prop where
 frames:A.frames=some outer
 mod:Mod K mg base
 bs:∀ b o,base.get? b=some o->s.heap.get? b=some o/\H b=none
 bsz:base.objs.size<=s.heap.objs.size
 funs:s.heap.FunFrames base outer
 frf:∀ b∈frs outer,H b=none
 hok:HOk P w H s.heap
 bare:oG s.gens
def CE (outer:List Env) (P:aL) (w:bN) (H:Hp) (s:ar) (Q:VK) (u:af) (s':ar):Prop:=
 ∃ v H',s'.os=s.os/\oG s'.gens/\Un (frs outer) [] H H' s.heap s'.heap/\HOk P w H' s'.heap/\RelV v u/\Q v H'
def CR (CX:CXT) (outer:List Env) (P:aL) (w:bN) (H:Hp) (s:ar) (Q:VK) (E:XK) (r:KG) (s':ar):Prop:=
 match r with
 | .ok (.ret u)=>CE outer P w H s Q u s'
 | .ok _=>False
 | .error e=>CX outer H s E e s'
structure cm (P:aL) (w:bN) (K:ae) (mg:Str->Option af) (base:cF) (CX:CXT) (k:Nat) (f:aa) (fd:cw) (ps:List Str) (sp:Sp):Prop where
 len:∀ vs H Q E,sp vs H Q E->vs.length=ps.length
 run:∀ (A:bZ) (outer:List Env) (s:ar) (H:Hp) (args:Args) (us:List af) (vs:List V) (Q:VK) (E:XK),d5 k A->xy P w K mg base A outer s H->tP s fd args (ps.zip us)->cX vs us->sp vs H Q E ->
  oK (bJ P w) A (.call (.ref f) args) (CR CX outer P w H s Q E) s
theorem xy.make {P:aL} {w:bN} {K:ae} {mg:Str->Option af} {base:cF} {A:bZ} {outer:List Env} {s:ar} {H:Hp} (e:xy P w K mg base A outer s H) (C:aa) (us:List af) (kw:List (Str×af)) :
  xy P w K mg base (A.under (.builtin "type.__call__" ⟨.ref C :: us,kw⟩)) outer s H:=⟨by first | exact e.frames | (simpa [yo,Code.envs,zx,pushEnvs] using e.frames),e.mod,e.bs,e.bsz,e.funs,e.frf,e.hok,e.bare⟩
section
variable {X:Cx} {pins:List (aa×Obj)} {σ:St} {H:Hp} {s s':ar}
theorem Inv.env0 (I:Inv X pins σ H s):xy X.prog X.w X.K X.mg X.base X.A X.stack s H:=
 ⟨I.ok.frames,I.ok.mod,I.bs,dH I.ok.bsz I.sz,I.stack,I.stkFree,I.hok,I.bare⟩
theorem Inv.after {Q:VK} {u:af} (I:Inv X pins σ H s) (h:CE X.stack X.prog X.w H s Q u s'):EP X pins σ Q u s':=by
 obtain ⟨v,H',os,bare,un,hok,r,q⟩:=h;obtain ⟨hh,g,d,t,os'⟩:=s';obtain rfl:os'=s.os:=os;exact ⟨v,H',I.call (h':=hh) (g':=g) (d':=d) (t':=t) (ch:=[]) un hok bare (fun b z=>absurd z (by simp)),r,q⟩
end
def tCall (sp:Sp) (dvs:List V) (E:XK) (t:TA):TE:=fun σ H Q=>t σ H fun vs H1=>sp (vs++dvs) H1 Q E
def Js (C:aa) (m:Str) (sp:Sp) (dvs:List V) (E:XK) (ta:TE) (t:TA):TE:=fun σ H Q=>ta σ H fun x H1=>∃ a dx fs,x=.ref a/\H1 a=some (.ins C dx fs)/\fs.lookup m=none /\
 t σ H1 fun vs H2=>sp (x :: (vs++dvs)) H2 Q E
def Jt (C:aa) (sp:Sp) (dvs:List V) (E:XK) (t:TA):TE:=fun σ H Q=>t σ H fun vs H1=>∀ x dx,H1 x=none->H1 dx=none->dx≠x ->
 sp (.ref x :: (vs++dvs)) (upd (upd H1 dx (.own x)) x (.ins C dx [])) (fun v H2=>v=.non/\Q (.ref x) H2) E
def Binds (K:ae) (fd:cw) (ps:List Str) (ds:List af):Prop:=
 ∀ (s:ar) (us:List af),K.In s.heap->(us++ds).length=ps.length->tP s fd ⟨us,[]⟩ (ps.zip (us++ds))
theorem Binds.all {K:ae} {fd:cw} {ps:List Str} (h:∀ us:List af,us.length=ps.length->zS fd ⟨us,[]⟩=pure (ps.zip us)):Binds K fd ps []:=fun s us _ hl=>by
 rw [dE] at hl |-;exact .of_eq (h us hl)
def lY (CX:CXT) (X:Cx) (E:XK):Prop:=∀ (pins:List (aa×Obj)) (σ:St) (H:Hp) (s:ar) (e:af) (s':ar),Inv X pins σ H s->CX X.stack H s E e s'->X.xe e s'
section
variable {X:Cx} {CX:CXT} {k:Nat} {f C:aa} {fd:cw} {ps:List Str} {sp:Sp} {dvs:List V} {ds:List af} {E:XK} {x m:Str} {p pos apos:Pos} {e o:cZ} {es:List cZ} {ta:TE} {t:TA}
theorem zT {pins:List (aa×Obj)} {σ:St} {H:Hp} {s:ar} {Q:VK} {us:List af} {vs:List V} (F:cm X.prog X.w X.K X.mg X.base CX k f fd ps sp) (hr:d5 k X.A) (hb:Binds X.K fd ps ds) (hd:cX dvs ds) (hx:lY CX X E)
  (I:Inv X pins σ H s) (r:cX vs us) (h:sp (vs++dvs) H Q E):aW (bJ X.prog X.w) X.A (xr (.ref f) us) (EP X pins σ Q) X.xe s:=by
 have r2:cX (vs++dvs) (us++ds):=r.append hd;have hl:(us++ds).length=ps.length:=by rw [<- r2.length]; exact F.len _ _ _ _ h
 refine zU (mE (F.run X.A X.stack s H ⟨us,[]⟩ (us++ds) (vs++dvs) Q E hr I.env0 (hb s us I.kIn hl) r2 h) fun r s' hq=>?_)
 cases r with
 | error e=>exact hx pins σ H s e s' I hq
 | ok fl =>
  cases fl with
  | ret u=>exact I.after hq
  | next=>exact dN hq
  | brk=>exact dN hq
  | cont=>exact dN hq
theorem aO (F:cm X.prog X.w X.K X.mg X.base CX k f fd ps sp) (hr:d5 k X.A) (hg:Gl X x) (hm:X.mg x=some (.ref f)) (hk:gB X.K (.ref f)=true) (hb:Binds X.K fd ps ds) (hd:cX dvs ds) (hx:lY CX X E)
  (ha:PA X (e :: es) t) (hdb:(x == ("__debug__":Str))=false:=by decide) (he:cM (e :: es) X.env=(false,fy e X.env) :: cM es X.env:=by rfl) (hpl:(jd pos (cM es X.env)).any (·.1)=false:=by rfl) :
  PE X (.Call (.Name x p) (e :: es) [] pos) (tCall sp dvs E t):=by
 intro pins s σ H Q I h;refine iD (qY I hg hm ?_ hdb);refine kO (h₀:=X.base) I.ok.mod.kin hk (thn (ha pos pins s σ H _ I h) fun us s1 ⟨vs,H1,I1,r,q⟩=>⟨I1.kIn,?_⟩) he hpl;exact zT F hr hb hd hx I1 r q
theorem iq {pl:Sem Bool} (he:PE X o ta) (c:Cls X.K C) (hm:xx X.K C m f) (F:cm X.prog X.w X.K X.mg X.base CX k f fd ps sp) (hr:d5 k X.A) (hb:Binds X.K fd ps ds) (hd:cX dvs ds) (hx:lY CX X E) (ha:PA X (e :: es) t)
  (hst:cM (e :: es) X.env=(false,fy e X.env) :: cM es X.env:=by rfl) (hpl:(jd pos (cM es X.env)).any (·.1)=false:=by rfl)
  (ht:fy (.Call (.Attribute o m apos) (e :: es) [] pos) X.env=(do
   let ov <- fy o X.env
   vK apos.atName
   let (f,first) <- qB [ov] (m9 ov m pl)
   zO pos f first (jd pos (cM (e :: es) X.env)) (nC pos (je [] X.env))):=by rfl) :
  PE X (.Call (.Attribute o m apos) (e :: es) [] pos) (Js C m sp dvs E ta t):=by
 intro pins s σ H Q I h;refine jM (pl:=pl) (thn (he pins s σ H _ I h) fun u s1 ⟨x,H1,I1,rx,a,dx,fs,ex,ea,l,q⟩=>?_) ht;subst ex;obtain rfl:u=Value.ref a:=rx;refine qF I1 ea c hm l ?_;refine kO (first:=[.ref a]) (h₀:=X.base) I.ok.mod.kin hm.kp (thn (ha pos pins s1 σ H1 _ I1 q) fun us s2 ⟨vs,H2,I2,r,q2⟩=>⟨I2.kIn,?_⟩) hst hpl;exact zT (us:=.ref a :: us) (vs:=.ref a :: vs) F hr hb hd hx I2 (.cons rfl r) q2
theorem rg {pl:Sem Bool} (he:PE X o ta) (c:Cls X.K C) (hm:xx X.K C m f) (F:cm X.prog X.w X.K X.mg X.base CX k f fd ps sp) (hr:d5 k X.A) (hb:Binds X.K fd ps ds) (hd:cX dvs ds) (hx:lY CX X E)
  (ht:fy (.Call (.Attribute o m apos) [] [] pos) X.env=(do
   let ov <- fy o X.env
   vK apos.atName
   let (f,first) <- qB [ov] (m9 ov m pl)
   zO pos f first (jd pos (cM [] X.env)) (nC pos (je [] X.env))):=by rfl) :
  PE X (.Call (.Attribute o m apos) [] [] pos) (Js C m sp dvs E ta zR):=by
 intro pins s σ H Q I h;refine jM (pl:=pl) (thn (he pins s σ H _ I h) fun u s1 ⟨x,H1,I1,rx,a,dx,fs,ex,ea,l,q⟩=>?_) ht;subst ex;obtain rfl:u=Value.ref a:=rx;refine qF I1 ea c hm l ?_;exact zy (first:=[.ref a]) I1.kIn hm.kp (zT (us:=[.ref a]) (vs:=[.ref a]) F hr hb hd hx I1 (.cons rfl .nil) q)
structure Mk (K:ae) (C f:aa):Prop where
 makes:uc K C=true
 init:aV K (.ref C) "__init__"=some (some (.ref f))
 fn:nA K (.ref f)=true
 kp:gB K (.ref C)=true
theorem Em {pins:List (aa×Obj)} {σ:St} {H:Hp} {s:ar} {Q:VK} {us:List af} {vs:List V} (M:Mk X.K C f) (F:cm X.prog X.w X.K X.mg X.base CX k f fd ps sp) (hr:d5 (k + 1) X.A) (hb:Binds X.K fd ps ds) (hd:cX dvs ds)
  (hx:lY CX X E) (I:Inv X pins σ H s) (r:cX vs us)
  (h:∀ x dx,H x=none->H dx=none->dx≠x->sp (.ref x :: (vs++dvs)) (upd (upd H dx (.own x)) x (.ins C dx [])) (fun v H2=>v=.non/\Q (.ref x) H2) E) :
  aW (bJ X.prog X.w) X.A (xr (.ref C) us) (EP X pins σ Q) X.xe s:=by
 have hq:=h (s.heap.objs.size + 1) s.heap.objs.size (I.hok.fresh (gc _)) (I.hok.fresh (aE _)) (aN (uV _));have I2:=Inv.made (C:=C) I;have r2:cX (V.ref (s.heap.objs.size + 1) :: (vs++dvs)) (Value.ref (s.heap.objs.size + 1) :: (us++ds)):=.cons rfl (r.append hd);have hl:(Value.ref (s.heap.objs.size + 1) :: us++ds).length=ps.length:=by
  have e:=r2.length;rw [F.len _ _ _ _ hq] at e;exact e.symm
 refine zU (Ej (f:=f) I.kIn M.makes M.init (beq_iff_eq.mp M.fn) (mE (F.run _ X.stack _ _ ⟨Value.ref (s.heap.objs.size + 1) :: us,[]⟩ (Value.ref (s.heap.objs.size + 1) :: (us++ds)) _ _ E (hr.make C us [])
  (I2.env0.make C us []) (hb _ (Value.ref (s.heap.objs.size + 1) :: us) I2.kIn hl) r2 hq) fun r s' hq'=>?_))
 cases r with
 | error e=>exact hx pins σ _ _ e s' I2 hq'
 | ok fl =>
  cases fl with
  | ret u =>
   obtain ⟨v,H',I3,rv,ev,q3⟩:=I2.after hq';subst ev;exact ⟨rv,⟨V.ref (s.heap.objs.size + 1),H',I3,rfl,q3⟩⟩
  | next=>exact dN hq'
  | brk=>exact dN hq'
  | cont=>exact dN hq'
theorem pU (M:Mk X.K C f) (F:cm X.prog X.w X.K X.mg X.base CX k f fd ps sp) (hr:d5 (k + 1) X.A) (hg:Gl X x) (hm:X.mg x=some (.ref C)) (hb:Binds X.K fd ps ds) (hd:cX dvs ds) (hx:lY CX X E)
  (ha:PA X (e :: es) t) (hdb:(x == ("__debug__":Str))=false:=by decide) (he:cM (e :: es) X.env=(false,fy e X.env) :: cM es X.env:=by rfl) (hpl:(jd pos (cM es X.env)).any (·.1)=false:=by rfl) :
  PE X (.Call (.Name x p) (e :: es) [] pos) (Jt C sp dvs E t):=by
 intro pins s σ H Q I h;refine iD (qY I hg hm ?_ hdb);refine kO (h₀:=X.base) I.ok.mod.kin M.kp (thn (ha pos pins s σ H _ I h) fun us s1 ⟨vs,H1,I1,r,q⟩=>⟨I1.kIn,?_⟩) he hpl;exact Em M F hr hb hd hx I1 r q
end
section
variable {X:Cx} {CX:CXT} {k:Nat} {f C:aa} {fd:cw} {ps ks:List Str} {sp:Sp} {E:XK} {x m:Str} {p pos apos kpos:Pos} {e o:cZ} {es:List cZ} {kws:List MJ} {te ta:TE} {t tk:TA} {nm:Option Str}
variable {g:List af->List af->List af} {gV:List V->List V->List V}
end
structure cv (N P:List Str) (sc:lE):Prop where
 kind:sc.kind=.function:=by rfl
 co:sc.isCoroutine=false:=by rfl
 gen:sc.isGenerator=false:=by rfl
 nd:N.Nodup:=by decide +kernel
 pre:N.take P.length=P:=by rfl
 par:∀ x∈P,sc.names.lookup x=some .local\/sc.names.lookup x=some .cell:=by decide +kernel
 nofree:∀ y∈sc.names,y.2≠.free:=by decide +kernel
theorem wz {kindOf:Str->Option kg} {x:Str}:∀ {binds:List (Str×af)} {m:Str->Option af},(∀ v,(x,v)∉binds)->Dq kindOf binds m x=m x
 | [],_,_=>rfl
 |(n,v) :: r,m,h=>by
  unfold Dq;rw [wz fun w hw=>h w (ah _ hw)]
  split
  ·have:x≠n:=by rintro rfl; exact h v aD
   simp [this]
  ·rfl
theorem wA {kindOf:Str->Option kg} {x:Str}:∀ {binds:List (Str×af)} {m:Str->Option af},(∀ v,(x,v)∉binds)->Dr kindOf binds m x=m x
 | [],_,_=>rfl
 |(n,v) :: r,m,h=>by
  unfold Dr;rw [wA fun w hw=>h w (ah _ hw)]
  split
  ·rfl
  ·have:x≠n:=by rintro rfl; exact h v aD
   simp [this]
theorem wB {kindOf:Str->Option kg} {x:Str} {v:af}:∀ {P:List Str} {vs:List af} {i:Nat} {m:Str->Option af},P.Nodup->P[i]?=some x->vs[i]?=some v->kindOf x=some .local ->
  Dq kindOf (P.zip vs) m x=some v
 | [],_,_,_,_,h,_,_=>by simp at h
 | _ :: _,[],_,_,_,_,h,_=>by simp at h
 | p :: P,w :: vs,0,m,nd,h1,h2,hk=>by
  simp at h1 h2; subst h1; subst h2;show Dq kindOf ((p,w) :: P.zip vs) m p=_;unfold Dq;rw [wz fun v hv=>(cO.mp nd).1 (oV hv).1,if_pos hk];simp
 | p :: P,w :: vs,i + 1,m,nd,h1,h2,hk=>by
  show Dq kindOf ((p,w) :: P.zip vs) m x=_;unfold Dq;exact wB (i:=i) (cO.mp nd).2 (by simpa using h1) (by simpa using h2) hk
theorem wC {kindOf:Str->Option kg} {x:Str} {v:af}:∀ {P:List Str} {vs:List af} {i:Nat} {m:Str->Option af},P.Nodup->P[i]?=some x->vs[i]?=some v->kindOf x≠some .local ->
  Dr kindOf (P.zip vs) m x=some v
 | [],_,_,_,_,h,_,_=>by simp at h
 | _ :: _,[],_,_,_,_,h,_=>by simp at h
 | p :: P,w :: vs,0,m,nd,h1,h2,hk=>by
  simp at h1 h2; subst h1; subst h2;show Dr kindOf ((p,w) :: P.zip vs) m p=_;unfold Dr;rw [wA fun v hv=>(cO.mp nd).1 (oV hv).1,if_neg hk];simp
 | p :: P,w :: vs,i + 1,m,nd,h1,h2,hk=>by
  show Dr kindOf ((p,w) :: P.zip vs) m x=_;unfold Dr;exact wC (i:=i) (cO.mp nd).2 (by simpa using h1) (by simpa using h2) hk
def start (N:List Str) (vs:List V):St:=vs.map some++cH (N.length - vs.length) none
def sN (CX:CXT) (P:aL) (w:bN) (K:ae) (mg:Str->Option af) (base:cF) (N:List Str) (qual:Str) (scope:lE) (f:aa) (cd:af) (A:bZ) (outer:List Env) (s:ar) (H:Hp) (E:XK):Cx where
 prog:=P
 w:=w
 K:=K
 mg:=mg
 base:=base
 A:=A.deeper (sO qual scope s.heap.objs.size f cd)
 N:=N
 s₀:=s
 H₀:=H
 env:=sO qual scope s.heap.objs.size f cd
 outer:=outer
 stack:=sO qual scope s.heap.objs.size f cd :: outer
 ex:=[]
 calm:=true
 fn:=fun _=>true
 pn:=[]
 xe:=fun e s'=>aW (bJ P w) (A.deeper (sO qual scope s.heap.objs.size f cd)) (zz (sO qual scope s.heap.objs.size f cd) e) (fun _ s''=>CX outer H s E e s'') (fun e' s''=>CX outer H s E e' s'') s'
theorem yK {sc:lE} {n:Nat} {x:Str} (h:sc.names.lookup x=some .cell):∃ c,(Dt n sc.names []).lookup x=some c:=by
 have q:=nF sc.names n [] (.inl h);exact Option.isSome_iff_exists.mp q
theorem wD {CX:CXT} {P:aL} {w:bN} {K:ae} {mg:Str->Option af} {base:cF} {N ps:List Str} {qual:Str} {scope:lE} {f:aa} {cd:af} {A:bZ} {outer:List Env} {s s1:ar} {H:Hp} {E:XK} {us:List af} {vs:List V}
  (S:cv N ps scope) (hd:A.handled=none) (e0:xy P w K mg base A outer s H) (hl:vs.length=ps.length) (r:cX vs us)
  (x:InCallC s s.heap.objs.size (Dq (sO qual scope s.heap.objs.size f cd).kindOf (ps.zip us) fun _=>none) (Dt (s.heap.objs.size + 1) scope.names []) (Dr (sO qual scope s.heap.objs.size f cd).kindOf (ps.zip us) fun _=>none) s1) :
  Inv (sN CX P w K mg base N qual scope f cd A outer s H E) [] (start N vs) H s1:=by
 have hpl:ps.length<=N.length:=by have:=congrArg gD S.pre; rw [aT] at this; omega
 obtain ⟨h1,tk,rfl,hk⟩:=x.done;have noA:∀ b:aa,b∉(sN CX P w K mg base N qual scope f cd A outer s H E).ex:=fun b z=>absurd (show b∈([]:List aa) from z) (by simp);refine ⟨⟨e0.mod,S.kind,rfl,rfl,aE _,fun y z c h1 h2=>?_,fun y hy=>?_,fun y c _ h=>?_,fun _=>hd,Around.frames_deeper e0.frames,.inr ⟨rfl,rfl⟩,fun b z=>absurd z (noA b),e0.bs,e0.bsz,fun b _ _=>noA b,fun b z=>absurd z (noA b),e0.funs,e0.frf⟩,
  rfl,e0.bare,Un.kept hk,⟨_,x.toInCall.ns,fun i y v h1 h2 h3=>?_⟩,fun y c h=>⟨_,x.cell y c h⟩,e0.hok.fresh (aE _),fun y c h=>?_,fun p hp=>absurd (show p∈([]:List (aa×Obj)) from hp) (by simp),e0.hok.kept hk,?_⟩
 ·exact name_of_addr x.apart (gu h1) (gu h2)
 ·have hy:scope.names.lookup y=some .cell\/scope.names.lookup y=some .free:=hy
  rcases hy with hy | hy
  ·exact yK hy
  ·exact absurd rfl (S.nofree _ (gu hy))
 ·exact lF (x.above y c (gu h))
 ·have hi:i < vs.length:=by
   unfold start at h2
   by_cases hi:i < vs.length
   ·exact hi
   ·rw [c9 (by simpa using hi)] at h2;rw [oo] at h2
    split at h2 <;> cases h2
  have ha:vs[i]?=some v:=by
   unfold start at h2;rw [fk (by simpa using hi),bS] at h2
   cases e:vs[i]? with
   | none=>rw [e] at h2; cases h2
   | some a=>rw [e] at h2; cases h2; rfl
  obtain ⟨u,hu,rv⟩:=r.get ha;have hp:ps[i]?=some y:=by
   rw [<- S.pre,yp (by omega)]; exact h1
  have ndP:ps.Nodup:=by rw [<- S.pre]; exact S.nd.sublist (tQ _ _)
  refine ⟨u,rv,?_⟩
  rcases S.par y (bX hp) with k | k
  ·exact .inl ⟨k,wB ndP hp hu k⟩
  ·obtain ⟨c,e⟩:=yK (n:=s.heap.objs.size + 1) k;refine .inr ⟨.inl k,c,e,?_⟩;have q:=x.cell y c e;rw [wC ndP hp hu (by show scope.names.lookup y≠_; rw [k]; decide)] at q;exact q
 ·exact e0.hok.fresh (lF (x.above y c (gu h)))
 ·unfold start;show _=N.length;rw [ax,ai,j8];omega
theorem Ju {CX:CXT} {P:aL} {w:bN} {K:ae} {mg:Str->Option af} {base:cF} {k:Nat} {f:aa} {name qual:Str} {params:Arguments} {body:List dJ} {scope:lE} {dV kV doc pm cdv ct oc:af} {an od:Option aa}
  {osl:Array (Option af)} {N ps:List Str} {sp:Sp} (lk:K.lookup f=some ⟨oc,od,.func (eW name qual params body scope dV kV doc pm an cdv ct),osl⟩) (hcd:jz K cdv qual=true) (S:cv N ps scope)
  (len:∀ vs H Q E,sp vs H Q E->vs.length=ps.length)
  (hbody:∀ (A:bZ) (outer:List Env) (s:ar) (H:Hp) (vs:List V) (Q:VK) (E:XK),d5 k (A.deeper (sO qual scope s.heap.objs.size f cdv))->sp vs H Q E ->
   ∃ t,PSs (sN CX P w K mg base N qual scope f cdv A outer s H E) body t/\t {nx:=fun _ H'=>Q .non H',rt:=Q} (start N vs) H) :
  cm P w K mg base CX (k + 1) f (eW name qual params body scope dV kV doc pm an cdv ct) ps sp:=by
 refine ⟨len,fun A outer s H args us vs Q E hr e0 hb r hsp=>?_⟩;have hl:=len _ _ _ _ hsp;have KX:K.In s.heap:=e0.mod.kin.keeps fun b o e=>(e0.bs b o e).1;have lim:s.heap.NoLimit:=e0.mod.nolimit.keeps fun b o e=>(e0.bs b o e).1;have hkind:∀ y∈ps.zip us,scope.names.lookup y.1=some .local\/(scope.names.lookup y.1=some .cell/\((Dt (s.heap.objs.size + 1) scope.names []).lookup y.1).isSome=true):=fun ⟨n,v⟩ hy=>by
  rcases S.par n (oV hy).1 with q | q
  ·exact .inl q
  ·exact .inr ⟨q,nF _ _ _ (.inl q)⟩
 refine Hf hr.depth (KX _ _ lk) rfl S.co S.gen rfl (zV KX hcd) (hb _ _ _ _ ?_);refine zW S.kind hkind fun env he s1 x=>?_;subst he;refine ⟨lim.keeps x.toInCall.keep,codeAny_func ?_⟩;obtain ⟨t,ht,hq⟩:=hbody A outer s H vs Q E (hr.deeper _) hsp;have I:Inv (sN CX P w K mg base N qual scope f cdv A outer s H E) [] (start N vs) H s1:=wD S hr.hd e0 hl r x;refine eN (ht [] s1 (start N vs) H _ I hq) (fun fl s' hs=>?_) fun e s' hs=>hs;have fin:∀ {σ':St} {H':Hp} {v:V} {u:af},Inv (sN CX P w K mg base N qual scope f cdv A outer s H E) [] σ' H' s'->RelV v u->Q v H'->CE outer P w H s Q u s':=
  fun {σ' H' v u} J rv q=>⟨v,H',J.os,J.bare,J.base,J.hok,rv,q⟩
 cases fl with
 | ret u =>
  obtain ⟨v,σ',H',J,rv,q⟩:=hs;exact fin J rv q
 | next =>
  obtain ⟨σ',H',J,q⟩:=hs;exact fin (v:=V.non) (u:=Value.none) J rfl q
 | brk =>
  obtain ⟨_,_,_,q⟩:=hs;exact dN q
 | cont =>
  obtain ⟨_,_,_,q⟩:=hs;exact dN q
section
variable {X:Cx} {x:Str} {p pos:Pos} {e:cZ} {es:List cZ} {t:TA} {id T:String} {r:List V->Hp->VK->Prop}
def tCB (r:List V->Hp->VK->Prop) (t:TA):TE:=fun σ H Q=>t σ H fun vs H1=>r vs H1 Q
theorem dB (hc:oQ X (.builtin id) r) (hg:Gl X x) (hm:X.mg x=none) (hv:gf x=some (.builtin id)) (ha:PA X (e :: es) t) (hn:x≠"__name__":=by decide) (hdb:(x == ("__debug__":Str))=false:=by decide)
  (he:cM (e :: es) X.env=(false,fy e X.env) :: cM es X.env:=by rfl) (hpl:(jd pos (cM es X.env)).any (·.1)=false:=by rfl):PE X (.Call (.Name x p) (e :: es) [] pos) (tCB r t):=by
 intro pins s σ H Q I h;refine iD (sj I hg hm hv ?_ hn hdb);exact PyProof.Rows.callWith_builtin1 (thn (ha pos pins s σ H _ I h) fun us s1 ⟨vs,H1,I1,r1,q1⟩=>hc pins s1 σ H1 vs us Q I1 r1 q1) he hpl
theorem iM (hc:oQ X (.type T) r) (hg:Gl X x) (hm:X.mg x=none) (hv:gf x=some (.type T)) (ha:PA X (e :: es) t) (hn:x≠"__name__":=by decide) (hdb:(x == ("__debug__":Str))=false:=by decide)
  (he:cM (e :: es) X.env=(false,fy e X.env) :: cM es X.env:=by rfl) (hpl:(jd pos (cM es X.env)).any (·.1)=false:=by rfl):PE X (.Call (.Name x p) (e :: es) [] pos) (tCB r t):=by
 intro pins s σ H Q I h;refine iD (sj I hg hm hv ?_ hn hdb);exact jU (thn (ha pos pins s σ H _ I h) fun us s1 ⟨vs,H1,I1,r1,q1⟩=>hc pins s1 σ H1 vs us Q I1 r1 q1) he hpl
end
end L2
namespace HT
open PySem PyProof.Rows
def lexLt:List Int->List Int->Bool
 | [],[]=>false
 | [],_ :: _=>true
 | _ :: _,[]=>false
 | x :: xs,y :: ys=>if x=y then lexLt xs ys else decide (x < y)
theorem kP (x y:Int) (xs ys:List Int):lexLt (x :: xs) (y :: ys)=if x=y then lexLt xs ys else decide (x < y):=rfl
theorem qv:lexLt [] []=false:=rfl
theorem oW (y:Int) (ys:List Int):lexLt [] (y :: ys)=true:=rfl
theorem oX (x:Int) (xs:List Int):lexLt (x :: xs) []=false:=rfl
theorem yL (A:bZ) (s:ar) (a:Int) (t:Tok) (c:Int) (u:Tok):∃ e,SeqAt.EqAt A s (.int a t) (.int c u) e/\(e=true↔a=c):=
 ⟨(a == c),yq a t c u,by simp⟩
theorem En (A:bZ) (s:ar) (a:Int) (t:Tok) (c:Int) (u:Tok) (prog:aL) (w:bN) (E:af->ar->Prop) (Q:af->ar->Prop) (h:Q (.bool (decide (a < c))) s) :
  aW (bJ prog w) A (sP .Lt (.int a t) (.int c u)) Q E s:=
 (PyProof.Rows.lt_int h:aW (bJ prog w) A (dZ .Lt (.int a t) (.int c u)) Q E s)
section
open PySem.SeqAt
open PySem.AutoSeq1 (wpAny_loadPart')
open PySem.MeetsSeq PySem.MeetsSeq2 PySem.MeetsSeq3
theorem vN (l b:aa) (items items2:Array af) (n n2:Nat) (dd dd2:Option aa) (sl sl2:Array (Option af)) (ns ms:List Int) (hi:fv items.toList ns) (hj:fv items2.toList ms) :
  Meets (iX.«tuple.__lt__» ⟨[.ref l,.ref b],[]⟩)
   (fun _ R s=>s.heap.get? l=some {cls:=.type "tuple",dict:=dd,data:=.seq items n,slots:=sl}/\s.heap.get? b=some {cls:=.type "tuple",dict:=dd2,data:=.seq items2 n2,slots:=sl2} /\
    R (.ok (.ret (.bool (lexLt ns ms)))) s):=
 .of_wp fun prog w A R s h=>by
  obtain ⟨hp,g,d,tk,os⟩:=s; obtain ⟨hl,hb,h⟩:=h;have f2:=lN;have z1:items.size=ns.length:=by rw [<- hi.length]; simp
  have z2:items2.size=ms.length:=by rw [<- hj.length]; simp
  wp_walk using dU hl,dU hb,qj _ (fun rest b s'=>b.1=none/\s'=⟨hp,g,d,tk,os⟩/\∃ (vs ws:List af) (ns' ms':List Int),rest=vs.zip ws /\
   fv vs ns'/\fv ws ms'/\ns'.length + items2.size=ms'.length + items.size/\R (.ok (.ret (.bool (lexLt ns' ms')))) ⟨hp,g,d,tk,os⟩) _
  case turn =>
   rintro ⟨y,x⟩ rest b s' ⟨hb',rfl,vs,ws,ns',ms',hz,hvi,hwi,hlen,hR⟩
   cases hvi with
   | nil=>rw [Eo] at hz; cases hz
   | cons a t hvi' =>
    cases hwi with
    | nil=>rw [Du] at hz; cases hz
    | cons c u hwi' =>
     rw [gI] at hz;injection hz with hyx hrest;injection hyx with hy hx;subst hy hx;rw [kP] at hR;simp only [aR] at hlen;obtain ⟨e,he,hiff⟩:=yL A.in1 ⟨hp,g,d,tk,os⟩ a t c u;refine aq (he prog w _ _ ?_)
     cases e with
     | true =>
      rw [if_pos (hiff.mp rfl)] at hR
      wp_walk
      exact ⟨rfl,rfl,_,_,_,_,hrest,hvi',hwi',by omega,hR⟩
     | false =>
      rw [if_neg (fun q=>absurd (hiff.mpr q) cg)] at hR;have hri:=En A.in1 ⟨hp,g,d,tk,os⟩ a t c u prog w
      wp_walk using hri
      exact ⟨_,rfl,by simpa using hR⟩
  case fin =>
   rintro ⟨b1,b2⟩ s' ⟨hb',rfl,vs,ws,ns',ms',hz,hvi,hwi,hlen,hR⟩;simp only at hb';subst hb';have hv:lexLt ns' ms'=decide (items.size < items2.size):=by
    cases hvi with
    | nil =>
     cases hwi with
     | nil =>
      simp only [cU] at hlen;rw [qv];exact (decide_eq_false (by omega)).symm
     | cons c u hw =>
      simp only [cU,aR] at hlen;rw [oW];exact (decide_eq_true (by omega)).symm
    | cons a t hv =>
     cases hwi with
     | nil =>
      simp only [cU,aR] at hlen;rw [oX];exact (decide_eq_false (by omega)).symm
     | cons c u hw =>
      rw [gI] at hz
      cases hz
   rw [hv] at hR
   wp_walk
   exact ⟨_,rfl,by simpa [pV] using hR⟩
  case h =>
   exact ⟨rfl,rfl,items.toList,items2.toList,ns,ms,rfl,hi,hj,by omega,h⟩
end
section
variable {prog:aL} {w:bN} {A:bZ} {E:af->ar->Prop} {s:ar}
theorem lt_tupInts {l b:aa} {items items2:Array af} {ns ms:List Int} {Q:af->ar->Prop} (hl:sh s.heap l items) (hb:sh s.heap b items2) (hi:fv items.toList ns) (hj:fv items2.toList ms)
  (hu:A.units < d8) (h:Q (.bool (lexLt ns ms)) s):aW (bJ prog w) A (dZ .Lt (.ref l) (.ref b)) Q E s:=by
 obtain ⟨⟨cls,dd,data,sl⟩,ho,hc,n,hd⟩:=id hl;obtain ⟨⟨cls2,dd2,data2,sl2⟩,ho2,hc2,n2,hd2⟩:=id hb;simp only at hc hd hc2 hd2;subst hc hd hc2 hd2;exact qG (op:=.Lt) ⟨_,ho,rfl⟩ ⟨_,ho2,rfl⟩ PySem.F.slot_tuple_lt PySem.F.entry_tuple_lt (PySem.F.args_tuple_lt_2 _ _) (vN l b items items2 n n2 dd dd2 sl sl2 ns ms hi hj)
  ⟨ho,ho2,show Value.bool (lexLt ns ms)≠Value.notImplemented/\Q (.bool (lexLt ns ms)) s from ⟨(fun x=>nomatch x),h⟩⟩ hu
theorem cat_tup {t b:aa} {vs ws:List af} {Q:af->ar->Prop} (ht:sh s.heap t vs.toArray) (hb:sh s.heap b ws.toArray) (hv:vs≠[])
  (h1:ws=[]->Q (.ref t) s) (h2:ws≠[]->Q (.ref s.heap.objs.size) {s with heap:=s.heap.push {cls:=.type "tuple",data:=.seq (vs++ws).toArray}})
  (hsz:vs.length + ws.length<=au):aW (bJ prog w) A (ij .Add (.ref t) (.ref b)) Q E s:=by
 obtain ⟨⟨cls,dd,data,sl⟩,ho,hc,n,hd⟩:=id ht;obtain ⟨⟨cls2,dd2,data2,sl2⟩,ho2,hc2,n2,hd2⟩:=id hb;simp only at hc hd hc2 hd2;subst hc hd hc2 hd2;have e:vs.toArray++ws.toArray=(vs++ws).toArray:=by simp
 by_cases hw:ws=[]
 ·exact Ep ⟨_,ho,rfl⟩ ⟨_,ho2,rfl⟩ xA Cq nG mH (lZ _ _)
   (tuple_addW1 t b vs.toArray ws.toArray n n2 dd dd2 sl sl2 (by simpa using hv) (by simp [hw])) ⟨ho,ho2,h1 hw⟩
 ·refine Ep ⟨_,ho,rfl⟩ ⟨_,ho2,rfl⟩ xA Cq nG mH (lZ _ _)
   (tuple_addW2 t b vs.toArray ws.toArray n n2 dd dd2 sl sl2 (by simpa using hv) (by simpa using hw) (by rw [aB,aB]; exact hsz)) ⟨ho,ho2,?_⟩
  rw [e];exact h2 hw
def sIx (n d:Nat):Option Int->Nat
 | none=>d
 | some v=>if v < 0 then (v + (n:Int)).toNat else min v.toNat n
theorem sIx_none (n d:Nat):sIx n d none=d:=rfl
theorem sIx_nat (n d k:Nat):sIx n d (some (k:Int))=min k n:=by
 show (if (k:Int) < 0 then ((k:Int) + (n:Int)).toNat else min (k:Int).toNat n)=min k n;rw [if_neg (by omega),ng]
theorem KI (n d:Nat) (hd:d<=n) (o:Option Int):sIx n d o<=n:=by
 cases o with
 | none=>exact hd
 | some v =>
  show (if v < 0 then (v + (n:Int)).toNat else min v.toNat n)<=n
  by_cases hv:v < 0
  ·rw [if_pos hv]; omega
  ·rw [if_neg hv]; exact Nat.min_le_right _ _
theorem A8 (v:Int) (n d:Nat):(if v < 0 then max (v + (n:Int)) 0 else min v (n:Int))=((sIx n d (some v):Nat):Int):=by
 show (if v < 0 then max (v + (n:Int)) 0 else min v (n:Int))=(((if v < 0 then (v + (n:Int)).toNat else min v.toNat n):Nat):Int)
 by_cases hv:v < 0
 ·simp only [if_pos hv]; omega
 ·simp only [if_neg hv]; omega
theorem zX (lo hi:Option Int) (n:Nat):kj lo hi 1 (n:Int)=(((sIx n 0 lo:Nat):Int),((sIx n n hi:Nat):Int)):=by
 have h1:¬ ((1:Int) < 0):=by omega
 unfold kj;simp only [h1,if_false];refine Prod.ext ?_ ?_
 ·cases lo with
  | none=>rfl
  | some v=>exact A8 v n 0
 ·cases hi with
  | none=>rfl
  | some v=>exact A8 v n n
theorem zY (i j:Nat):ir (i:Int) (j:Int) 1=j - i:=by
 unfold ir;have h1:(1:Int) > 0:=by omega
 simp only [h1,if_true,Int.ediv_one]
 split <;> omega
theorem uW {v:af} {o:Option Int} {Q:Option Int->ar->Prop} (p:xB v o) (h:Q o s):aW (bJ prog w) A (Builtin.Slice.slicePartIndex v) Q E s:=by
 cases p with
 | none=>exact slicePart_none h
 | int i t=>exact slicePart_int h
theorem sQ {sl:aa} {vl vu:af} {lo hi:Option Int} {n:Nat} {Q:Int×Int×Nat->ar->Prop} (hs:s.heap.IsSliceOf sl vl vu .none) (pl:xB vl lo) (pu:xB vu hi)
  (h:Q (((sIx n 0 lo:Nat):Int),1,sIx n n hi - sIx n 0 lo) s):aW (bJ prog w) A (rh (.ref sl) (pure (n:Int))) Q E s:=by
 obtain ⟨os,hos,hcs,hds⟩:=id hs;unfold rh Builtin.Slice.sliceFields;refine aq (aq (lG hos hds (x:=vl) rfl (aq (lG hos hds (x:=vu) rfl (aq (lG hos hds (x:=.none) rfl (aP ?_)))))));refine aq (slicePart_none ?_);show aW _ _ (if ((1:Int) == 0)=true then _ else _) _ _ s;rw [if_neg (by decide)];refine aq (uW pl (aq (uW pu (aq (aP ?_)))));show aW _ _ (match kj lo hi 1 (n:Int) with | (lo,hi)=>pure (lo,(1:Int),ir lo hi 1)) _ _ s;rw [zX lo hi n];show aW _ _ (pure (((sIx n 0 lo:Nat):Int),(1:Int),ir ((sIx n 0 lo:Nat):Int) ((sIx n n hi:Nat):Int) 1)) _ _ s;rw [zY];exact aP h
theorem Er (xs:Array af) (i k:Nat):((ig k).filterMap fun (m:Nat)=>xs[((i:Int) + (m:Int) * 1).toNat]?).toArray=((xs.toList.drop i).take k).toArray:=by
 have e:(fun (m:Nat)=>xs[((i:Int) + (m:Int) * 1).toNat]?)=fun m=>xs[i + m]?:=by
  funext m
  have:((i:Int) + (m:Int) * 1).toNat=i + m:=by omega
  rw [this]
 rw [e];have:=pick_run xs i k;rw [List.filterMap_map] at this;have e2:((fun x=>xs[x]?) ∘ fun x=>i + x)=fun m=>xs[i + m]?:=rfl;rw [e2] at this;rw [this]
theorem getItem_tuple_cut {t sl:aa} {items:Array af} {vl vu:af} {lo hi:Option Int} {Q:af->ar->Prop} (ht:sh s.heap t items) (hs:s.heap.IsSliceOf sl vl vu .none) (pl:xB vl lo) (pu:xB vu hi)
  (hw:¬ (sIx items.size 0 lo=0/\sIx items.size items.size hi=items.size))
  (h:Q (.ref s.heap.objs.size) {s with heap:=s.heap.push {cls:=.type "tuple",data:=.seq ((items.toList.drop (sIx items.size 0 lo)).take (sIx items.size items.size hi - sIx items.size 0 lo)).toArray}})
  (hsz:items.size<=au):aW (bJ prog w) A (tR (.ref t) (.ref sl)) Q E s:=by
 have htake:sizeOk (.seq ((items.toList.drop (sIx items.size 0 lo)).take (sIx items.size items.size hi - sIx items.size 0 lo)).toArray):=by
  show ((items.toList.drop (sIx items.size 0 lo)).take (sIx items.size items.size hi - sIx items.size 0 lo)).toArray.size<=au;rw [aB,aT,cN,gs];omega
 have hj:sIx items.size items.size hi<=items.size:=KI _ _ (aE _) hi;obtain ⟨os,hos,hcs,hds⟩:=id hs;have hTs:s.TypeIs (.ref sl) "slice":=⟨os,hos,hcs⟩;unfold tR
 try with_reducible refine dD ?_
 first | refine aq (aP ?_) | skip
 refine aq (wpAny_sequenceKey ht.typeIs (by decide) ?_);refine aq (wpAny_callSpecial?_slot (name:=jR "__getitem__") ht.typeIs jh
  (qm jh ht.typeIs entry_tuple_getitem ?_ (args_tuple_getitem _ _)))
 show aW _ _ (Builtin.Tuple.tupleItemsOf (.ref t) >>= _) _ _ s;refine aq (tupleItemsOf_ ht ?_);refine aq (Es hTs ?_);rw [if_pos (by decide)];refine aq (sQ hs pl pu ?_);have hno:¬ ((((sIx items.size 0 lo:Nat):Int) == 0 && (1:Int) == 1 && (sIx items.size items.size hi - sIx items.size 0 lo) == items.size)=true):=by
  intro q;rw [oq,oq] at q;have q1:((sIx items.size 0 lo:Nat):Int)=0:=eq_of_beq q.1.1;have q2:sIx items.size items.size hi - sIx items.size 0 lo=items.size:=eq_of_beq q.2;exact hw ⟨by omega,by omega⟩
 show aW _ _ (if (((sIx items.size 0 lo:Nat):Int) == 0 && (1:Int) == 1 && (sIx items.size items.size hi - sIx items.size 0 lo) == items.size)=true then _ else _) _ _ s;rw [if_neg hno,Er]
 first
  | exact aq (m:=iE _) (iY (aP ⟨_,rfl,aP h⟩) htake)
  | exact aq (m:=iE _) (iY (aq (aP (aP ⟨_,rfl,aP h⟩))) htake)
  | exact aq (aq (m:=iE _) (iY (aP (aP ⟨_,rfl,aP h⟩)) htake))
  | exact aq (aq (m:=iE _) (iY (aP ⟨_,rfl,aP h⟩) htake))
end
end HT
namespace L2
open PySem PySem.Spec PyProof.Rows
abbrev TO:=St->Hp->(Option Int->Hp->Prop)->Prop
def PO (X:Cx) (e:Option cZ) (t:TO):Prop:=
 ∀ (pins:List (aa×Obj)) (s:ar) (σ:St) (H:Hp) (Q:Option Int->Hp->Prop),Inv X pins σ H s->t σ H Q ->
  aW (bJ X.prog X.w) X.A (evalPart e X.env) (fun u s'=>∃ o H',Inv X pins σ H' s'/\xB u o/\Q o H') X.xe s
def Hx:TO:=fun _ H Q=>Q none H
def tPart (t:TE):TO:=fun σ H Q=>t σ H fun x H1=>∃ i,x=.int i/\Q (some i) H1
theorem intsAre_of {ns:List Int}:∀ {us:List af},cX (ns.map V.int) us->fv us ns:=by
 induction ns with
 | nil=>intro us r; rw [zA] at r; cases r; exact .nil
 | cons n ns ih =>
  intro us r;rw [cu] at r
  cases r with
  | cons r1 r2 =>
   obtain ⟨t,e⟩:=r1;subst e;exact .cons n t (ih r2)
section
variable {X:Cx} {e:cZ} {te:TE} {lo hi:Option cZ} {tl th:TO} {pos p2:Pos}
theorem fX:PO X none Hx:=by
 intro pins s σ H Q I h;rw [evalPart_none];exact aP ⟨none,H,I,.none,h⟩
theorem fg (h:PE X e te):PO X (some e) (tPart te):=by
 intro pins s σ H Q I hw;rw [evalPart_some];refine thn (h pins s σ H _ I hw) fun u s1 ⟨x,H1,I1,r1,q1⟩=>?_;obtain ⟨i,rfl,q⟩:=q1;obtain ⟨t,rfl⟩:=r1;exact ⟨some i,H1,I1,.int i t,q⟩
def SlR (X:Cx) (r:V->Option Int->Option Int->Hp->VK->Prop):Prop:=
 ∀ (pins:List (aa×Obj)) (s:ar) (σ:St) (H:Hp) (x:V) (v vl vu:af) (lo hi:Option Int) (sl:aa) (Q:VK),Inv X pins σ H s->RelV x v->s.heap.IsSliceOf sl vl vu .none->xB vl lo->xB vu hi->r x lo hi H Q ->
  ∃ T id,KJ (.type T) "__getitem__"=pure (some (.builtin id))/\s.TypeIs v T/\aW (bJ X.prog X.w) X.A (tR v (.ref sl)) (EP X pins σ Q) X.xe s
def tSl (r:V->Option Int->Option Int->Hp->VK->Prop) (te:TE) (tl th:TO):TE:=fun σ H Q=>te σ H fun x H1=>tl σ H1 fun l H2=>th σ H2 fun u H3=>r x l u H3 Q
theorem eI {r:V->Option Int->Option Int->Hp->VK->Prop} (hr:SlR X r) (he:PE X e te) (hl:PO X lo tl) (hu:PO X hi th):PE X (.Subscript e (.Slice lo hi none p2) pos) (tSl r te tl th):=by
 intro pins s σ H Q I h;refine KL (thn (he pins s σ H _ I h) fun v s1 ⟨x,H1,I1,r1,q1⟩=>?_);refine wpAny_Slice (thn (hl pins s1 σ H1 _ I1 q1) fun vl s2 ⟨l,H2,I2,pl,q2⟩=>thn (hu pins s2 σ H2 _ I2 q2) fun vu s3 ⟨u,H3,I3,pu,q3⟩=>?_);rw [evalPart_none];refine aP ?_;have I4:Inv X pins σ H3 {s3 with heap:=s3.heap.push {cls:=.type "slice",data:=.fields #[vl,vu,.none]}}:=I3.kept (t':=s3.toks) fun b ob q=>aJ _ q;obtain ⟨T,id,hT,ht,hg⟩:=hr pins {s3 with heap:=s3.heap.push {cls:=.type "slice",data:=.fields #[vl,vu,.none]}} σ H3 x v vl vu l u s3.heap.objs.size Q I4 r1 (MK ..) pl pu q3;show aW (bJ X.prog X.w) X.A (Cr e (.Slice lo hi none p2) v (.ref s3.heap.objs.size)) (EP X pins σ Q) X.xe {s3 with heap:=s3.heap.push {cls:=.type "slice",data:=.fields #[vl,vu,.none]}};exact tail_any (ops:=[.ref s3.heap.objs.size,v]) ht hT hg (by with_unfolding_all rfl)
def eT (xs:List V) (lo hi:Option Int):List V:=(xs.drop (HT.sIx xs.length 0 lo)).take (HT.sIx xs.length xs.length hi - HT.sIx xs.length 0 lo)
theorem oY (xs:List V) (lo hi:Option Int):(eT xs lo hi).length<=xs.length:=by
 unfold eT;rw [aT,cN];omega
def rSlT (K:ae):V->Option Int->Option Int->Hp->VK->Prop:=fun x lo hi H Q=>∃ a xs,x=.ref a/\SqT K H a xs /\
 ¬ (HT.sIx xs.length 0 lo=0/\HT.sIx xs.length xs.length hi=xs.length)/\∀ p,H p=none->Q (.ref p) (upd H p (.tup (eT xs lo hi)))
theorem qH:SlR X (rSlT X.K):=by
 intro pins s σ H x v vl vu lo hi sl Q I rx hs pl pu h;obtain ⟨a,xs,rfl,hx,hw,q⟩:=h
 cases rx;obtain ⟨its,r,ht,hz⟩:=I.tuple hx;have hlen:its.toArray.size=xs.length:=by rw [aB]; exact r.length.symm
 refine ⟨"tuple",_,jh.lookup,ht.typeIs,?_⟩;refine HT.getItem_tuple_cut ht hs pl pu (by rw [hlen]; exact hw) ?_ (by rw [hlen]; exact hz);rw [hlen];refine ⟨.ref s.heap.objs.size,_,I.laid (t':=s.toks) (o:=.tup (eT xs lo hi)) (fun b ob q=>aJ _ q) (aE _) ?_,rfl,q _ (I.hok.fresh (aE _))⟩;exact ⟨dH (oY xs lo hi) hz,_,(r.drop (HT.sIx xs.length 0 lo)).take (HT.sIx xs.length xs.length hi - HT.sIx xs.length 0 lo),Et _ _⟩
def rCatT (K:ae):R2:=fun x y H Q=>∃ a b xs ys,x=.ref a/\y=.ref b/\SqT K H a xs/\SqT K H b ys/\xs≠[]/\xs.length + ys.length<=au /\
 (ys=[]->Q (.ref a) H)/\(ys≠[]->∀ p,H p=none->Q (.ref p) (upd H p (.tup (xs++ys))))
theorem cX.nil_iff {xs:List V} {us:List af} (r:cX xs us):us=[]↔xs=[]:=by
 cases r with
 | nil=>simp
 | cons _ _=>simp
theorem pX:OpR X (ij .Add) (rCatT X.K):=by
 intro pins s σ H x y v u Q I rx ry h;obtain ⟨a,b,xs,ys,rfl,rfl,ha,hb,hx,hz,q1,q2⟩:=h
 cases rx
 cases ry;obtain ⟨its,r1,p1,_⟩:=I.tuple ha;obtain ⟨its2,r2,p2,_⟩:=I.tuple hb;refine HT.cat_tup p1 p2 (fun z=>hx (r1.nil_iff.mp z)) (fun z=>⟨.ref a,H,I,rfl,q1 (r2.nil_iff.mp z)⟩) (fun z=>?_) (by rw [<- r1.length,<- r2.length]; exact hz);refine ⟨.ref s.heap.objs.size,_,I.laid (t':=s.toks) (o:=.tup (xs++ys)) (fun b ob q=>aJ _ q) (aE _) ?_,rfl,q2 (fun w=>z (r2.nil_iff.mpr w)) _ (I.hok.fresh (aE _))⟩;exact ⟨by rw [ax]; exact hz,_,r1.append r2,Et _ _⟩
end
def ixN (n:Nat) (i:Int):Option Nat:=if 0<=i then (if i < n then some i.toNat else none) else if -(n:Int)<=i then some (i + n).toNat else none
def atI {α:Type} (xs:List α) (i:Int):Option α:=(ixN xs.length i).bind fun j=>xs[j]?
theorem xC {n:Nat} {i:Int} {j:Nat} (h:ixN n i=some j):seqIndex? i n=some j/\j < n/\-(n:Int)<=i/\i < n:=by
 unfold ixN at h
 by_cases h0:0<=i
 ·rw [if_pos h0] at h
  by_cases h1:i < n
  ·rw [if_pos h1] at h;have e:i.toNat=j:=cQ h;exact ⟨by rw [Hy h0 h1,e],by omega,by omega,h1⟩
  ·rw [if_neg h1] at h; cases h
 ·rw [if_neg h0] at h
  by_cases h1:-(n:Int)<=i
  ·rw [if_pos h1] at h;have e:(i + n).toNat=j:=cQ h;exact ⟨by rw [Eu (by omega) h1,e],by omega,h1,by omega⟩
  ·rw [if_neg h1] at h; cases h
theorem xE {α:Type} {xs:List α} {i:Int} {v:α} (h:atI xs i=some v):∃ j,seqIndex? i xs.length=some j/\xs[j]?=some v/\j < xs.length/\-(xs.length:Int)<=i/\i < xs.length:=by
 unfold atI at h
 cases e:ixN xs.length i with
 | none=>rw [e] at h; cases h
 | some j =>
  rw [e] at h;obtain ⟨h1,h2,h3,h4⟩:=xC e;exact ⟨j,h1,h,h2,h3,h4⟩
theorem gR {α:Type} {xs:List α} {j:Nat} {v:α} (h:xs[j]?=some v):atI xs (j:Int)=some v:=by
 have hj:j < xs.length:=(aC.mp h).1;have e:ixN xs.length (j:Int)=some j:=by
  unfold ixN;rw [if_pos (by omega),if_pos (by omega)]; simp
 unfold atI; rw [e]; exact h
theorem Ew {α:Type} (xs:List α) (v:α):atI (xs++[v]) (-1)=some v:=by
 have hl:(xs++[v]).length=xs.length + 1:=by simp
 have e:ixN (xs++[v]).length (-1)=some xs.length:=by
  unfold ixN;rw [hl,if_neg (by decide),if_pos (by omega)]
  congr 1
  omega
 unfold atI;rw [e];show (xs++[v])[xs.length]?=some v;simp
def Hz (b:cZ):Prop:=∀ o i,yt b false o i=operate [o,i] (tR o i)
def IxR (X:Cx) (r:R2):Prop:=
 ∀ (value slice:cZ) (pins:List (aa×Obj)) (s:ar) (σ:St) (H:Hp) (x y:V) (v u:af) (Q:VK),Inv X pins σ H s->RelV x v->RelV y u->r x y H Q ->
  yt slice false v u=operate [v,u] (tR v u)->aW (bJ X.prog X.w) X.A (Cr value slice v u) (EP X pins σ Q) X.xe s
def MtR (X:Cx) (id:String) (r:V->List V->Hp->VK->Prop):Prop:=
 ∀ (pins:List (aa×Obj)) (s:ar) (σ:St) (H:Hp) (x:V) (xs:List V) (v:af) (us:List af) (Q:VK),Inv X pins σ H s->RelV x v->cX xs us->r x xs H Q ->
  aW (bJ X.prog X.w) X.A (xr (.builtin id) (v :: us)) (EP X pins σ Q) X.xe s
section
variable {X:Cx} {a b:cZ} {ta tb:TE} {pos:Pos}
theorem bT {r:R2} (hr:IxR X r) (ha:PE X a ta) (hb:PE X b tb) (hs:Hz b):PE X (.Subscript a b pos) (tOp r ta tb):=by
 intro pins s σ H Q I h;exact KL (KC ha hb I h fun v u s2 x y H2 I2 rx ry q=>hr a b pins s2 σ H2 x y v u Q I2 rx ry q (hs _ _))
inductive RIxL (K:ae) (x y:V) (H:Hp) (Q:VK):Prop where
 | mk (p:aa) (xs:List V) (i:Int) (v:V) (hx:x=.ref p) (hy:y=.int i) (s:SqL K H p xs) (e:atI xs i=some v) (q:Q v H):RIxL K x y H Q
def rIxL (K:ae):R2:=fun x y H Q=>RIxL K x y H Q
inductive RIxT (K:ae) (x y:V) (H:Hp) (Q:VK):Prop where
 | mk (p:aa) (xs:List V) (i:Int) (v:V) (hx:x=.ref p) (hy:y=.int i) (s:SqT K H p xs) (e:atI xs i=some v) (q:Q v H):RIxT K x y H Q
def rIxT (K:ae):R2:=fun x y H Q=>RIxT K x y H Q
def rIxS:R2:=fun x y H Q=>∃ z i c,x=.str z/\y=.int i/\z.length<=au/\atI z.cps.toList i=some c/\Q (.str ⟨#[c]⟩) H
theorem cV:IxR X (rIxL X.K):=by
 intro value slice pins s σ H x y v u Q I rx ry h hs;obtain ⟨p,xs,i,z,rfl,rfl,hq,he,q⟩:=h
 cases rx;obtain ⟨t,rfl⟩:=ry;obtain ⟨its,r,pl,hz⟩:=I.list hq;obtain ⟨j,h1,h2,h3,h4,h5⟩:=xE he;obtain ⟨w,ew,rw'⟩:=r.get h2;have hl:=r.length;have hn:=sJ;have fin:EP X pins σ Q w s:=⟨z,H,I,rw',q⟩
 by_cases h0:0<=i
 ·have hj:i.toNat=j:=by
   rw [Hy h0 h5] at h1;exact cQ h1
  exact item_listR pl.isList h0 (by omega) (by rw [hj]; simpa using ew) fin hs
 ·have hj:(i + (its.toArray.size:Int)).toNat=j:=by
   rw [Eu (by omega) h4] at h1;rw [aB,<- hl];exact cQ h1
  exact Ey (x:=w) pl.isList.typeIs ML.lookup
   (wpAny_getItem_list_neg (Q:=fun r s'=>r=w/\EP X pins σ Q r s') pl.isList (by omega) (by rw [aB] <;> omega) (by omega) (by rw [hj]; simpa using ew) ⟨rfl,fin⟩) hs
theorem cL:IxR X (rIxT X.K):=by
 intro value slice pins s σ H x y v u Q I rx ry h hs;obtain ⟨p,xs,i,z,rfl,rfl,hq,he,q⟩:=h
 cases rx;obtain ⟨t,rfl⟩:=ry;obtain ⟨its,r,pl,hz⟩:=I.tuple hq;obtain ⟨j,h1,h2,h3,h4,h5⟩:=xE he;obtain ⟨w,ew,rw'⟩:=r.get h2;have hl:=r.length;have hn:=sJ;have fin:EP X pins σ Q w s:=⟨z,H,I,rw',q⟩;exact Ey (x:=w) pl.typeIs slot_tuple_getitem.lookup
  (getItem_tuple (j:=j) (Q:=fun r s'=>r=w/\EP X pins σ Q r s') pl (by omega) (by omega) (by rw [aB,<- hl]; exact h1) (by simpa using ew) ⟨rfl,fin⟩) hs
theorem Ez:IxR X rIxS:=by
 intro value slice pins s σ H x y v u Q I rx ry h hs;obtain ⟨z,i,c,rfl,rfl,hz,he,q⟩:=h;obtain ⟨t,rfl⟩:=rx;obtain ⟨t',rfl⟩:=ry;obtain ⟨j,h1,h2,h3,h4,h5⟩:=xE he;have hl:z.cps.toList.length=z.length:=by simp [Str.length]
 rw [hl] at h1 h4 h5;have hn:=sJ;exact tail_any (typeIs_str s z t) slot_str_getitem.lookup (getItem_str (c:=c) (by
  have e1:decide (i < -(2 ^ 63:Int))=false:=decide_eq_false (by omega);have e2:decide (i ≥ 2 ^ 63)=false:=decide_eq_false (by omega);rw [e1,e2,Bool.or_false]) (by rw [h1]; simpa using h2) ⟨.str ⟨#[c]⟩,H,I.tok _,⟨_,rfl⟩,q⟩) hs
theorem zZ (its:List af) (n j:Nat) (u:af):df (·.setIfInBounds j u) {cls:=.type "list",data:=.seq its.toArray n}={cls:=.type "list",data:=.seq (its.set j u).toArray n}:=by
 simp [df]
theorem Inv.lst {pins:List (aa×Obj)} {σ:St} {H:Hp} {s:ar} {p:aa} {xs:List V} (I:Inv X pins σ H s) (h:H p=some (.lst xs)) :
  ∃ (its:List af) (n:Nat),cX xs its/\s.heap.get? p=some {cls:=.type "list",data:=.seq its.toArray n}/\xs.length<=au:=by
 obtain ⟨z,its,n,r,e⟩:=I.hok p _ h;exact ⟨its,n,r,e,z⟩
theorem Inv.lstUpd {pins:List (aa×Obj)} {σ:St} {H:Hp} {s:ar} {p:aa} {xs ys:List V} {its its':List af} {n n':Nat} {f:Obj->Obj} (I:Inv X pins σ H s) (h:H p=some (.lst xs))
  (ho:s.heap.get? p=some {cls:=.type "list",data:=.seq its.toArray n}) (hf:f {cls:=.type "list",data:=.seq its.toArray n}={cls:=.type "list",data:=.seq its'.toArray n'}) (r:cX ys its') (hz:ys.length<=au) (t:Nat) :
  Inv X pins σ (upd H p (.lst ys)) {s with heap:=s.heap.update p f,toks:=t}:=by
 have e:(s.heap.update p f).get? p=some {cls:=.type "list",data:=.seq its'.toArray n'}:=by
  rw [pY f ho (by rw [hf] <;> rfl),hf]
 refine I.write (x:=p) (e:=p) (by rw [h]; trivial) (.inl rfl) (fun b u hb q=>(fc _ _ (fV hb)).trans q) ⟨_,e⟩ ?_;exact ⟨hz,its',n',r,e⟩
def rSetL:V->V->V->Hp->(Hp->Prop)->Prop:=fun o i v H Q=>∃ p xs k j,o=.ref p/\i=.int k/\H p=some (.lst xs)/\ixN xs.length k=some j/\Q (upd H p (.lst (xs.set j v)))
theorem uX:PSet X rSetL:=by
 intro pins s σ H o i v ov iv u Q I ro ri rv h;obtain ⟨p,xs,k,j,rfl,rfl,hp,hj,q⟩:=h
 cases ro;obtain ⟨t,rfl⟩:=ri;obtain ⟨its,n,r,ho,hz⟩:=I.lst hp;obtain ⟨h1,h2,h3,h4⟩:=xC hj;have hl:=r.length;have hn:=sJ;have I':Inv X pins σ (upd H p (.lst (xs.set j v))) {s with heap:=s.heap.update p (df (·.setIfInBounds j u))}:=
  I.lstUpd hp ho (zZ its n j u) (r.set rv j) (by rw [HA]; exact hz) s.toks
 by_cases h0:0<=k
 ·have hk:k.toNat=j:=by
   rw [Hy h0 h4] at h1;exact cQ h1
  exact PySem.W.ki_setAt ho h0 (by omega) (by rw [aB,<- hl]; exact h4) (by rw [hk]; exact ⟨_,I',q⟩)
 ·have hk:(k + (its.toArray.size:Int)).toNat=j:=by
   rw [Eu (by omega) h3] at h1;rw [aB,<- hl];exact cQ h1
  exact PySem.W.ki_setBack ho (by omega) (by rw [aB,<- hl]; exact h3) (by omega) (by rw [hk]; exact ⟨_,I',q⟩)
theorem xH (lo hi:Option Int) (n:Nat):(lH lo hi none n).1=((HT.sIx n 0 lo:Nat):Int)/\(lH lo hi none n).2.1=((HT.sIx n n hi:Nat):Int)/\(lH lo hi none n).2.2=1:=by
 refine ⟨?_,?_,rfl⟩
 ·cases lo with
  | none=>simp [lH,HT.sIx]
  | some i =>
   simp only [lH,HT.sIx,Dv,show (1:Int) > 0 by decide,if_true]
   by_cases h:i < 0
   ·simp only [h,if_true] <;> omega
   ·simp only [h,if_false] <;> omega
 ·cases hi with
  | none=>simp [lH,HT.sIx]
  | some i =>
   simp only [lH,HT.sIx,Dv,show (1:Int) > 0 by decide,if_true]
   by_cases h:i < 0
   ·simp only [h,if_true] <;> omega
   ·simp only [h,if_false] <;> omega
theorem vO (its:List af) (lo hi:Option Int):slicePick its.toArray lo hi none=((its.drop (HT.sIx its.length 0 lo)).take (HT.sIx its.length its.length hi - HT.sIx its.length 0 lo)).toArray:=by
 obtain ⟨h1,h2,h3⟩:=xH lo hi its.toArray.size;unfold slicePick;rw [h1,h2,h3];simp only [sliceRange_one,pick_run,aB] <;> rfl
def rSlL (K:ae):V->Option Int->Option Int->Hp->VK->Prop:=fun x lo hi H Q=>∃ a xs,x=.ref a/\SqL K H a xs/\∀ p,H p=none->Q (.ref p) (upd H p (.lst (eT xs lo hi)))
theorem iu:SlR X (rSlL X.K):=by
 intro pins s σ H x v vl vu lo hi sl Q I rx hs pl pu h;obtain ⟨a,xs,rfl,hx,q⟩:=h
 cases rx;obtain ⟨its,r,ht,hz⟩:=I.list hx;have hlen:=r.length;refine ⟨"list",_,ML.lookup,ht.isList.typeIs,?_⟩;refine wpAny_getItem_list_slice ht.isList hs pl pu .none (by simp) ?_ (by rw [aB] <;> omega);rw [vO,<- hlen];refine ⟨.ref s.heap.objs.size,_,I.laid (t':=s.toks) (o:=.lst (eT xs lo hi)) (fun b ob q=>aJ _ q) (aE _) ?_,rfl,q _ (I.hok.fresh (aE _))⟩;exact ⟨dH (oY xs lo hi) hz,_,0,(r.drop (HT.sIx xs.length 0 lo)).take (HT.sIx xs.length xs.length hi - HT.sIx xs.length 0 lo),cz _ rfl⟩
theorem iN:oQ X (.builtin "len") (fun xs H Q=>∃ p ys,xs=[.ref p]/\(SqL X.K H p ys\/SqT X.K H p ys)/\Q (.int ys.length) H):=by
 intro pins s σ H xs us Q I r h;obtain ⟨p,ys,rfl,hq,q⟩:=h;obtain ⟨u,rfl,rx⟩:=vals1 r
 cases rx;have hn:=sJ
 rcases hq with hq | hq
 ·obtain ⟨its,r',pl,hz⟩:=I.list hq;have hlen:=r'.length;exact Calls.call_len_list pl.isList (by simp only [aB] <;> omega) ⟨.int ys.length,H,I.tok _,⟨s.toks + 1,by rw [aB,hlen]⟩,q⟩
 ·obtain ⟨its,r',pl,hz⟩:=I.tuple hq;have hlen:=r'.length;exact len_tuple pl (by simp only [aB] <;> omega) ⟨.int ys.length,H,I.tok _,⟨s.toks + 1,by rw [aB,hlen]⟩,q⟩
theorem rj:oQ X (.type "list") (fun xs H Q=>∃ p ys,xs=[.ref p]/\(SqL X.K H p ys\/SqT X.K H p ys)/\∀ l,H l=none->Q (.ref l) (upd H l (.lst ys))):=by
 intro pins s σ H xs us Q I r h;obtain ⟨p,ys,rfl,hq,q⟩:=h;obtain ⟨u,rfl,rx⟩:=vals1 r
 cases rx;have fin:∀ (its:List af),cX ys its->ys.length<=au->∀ (h':cF) (c':Nat),(∀ b o',s.heap.get? b=some o'->h'.get? b=some o') ->
   h'.get? s.heap.objs.size=some {cls:=.type "list",dict:=none,data:=.seq its.toArray c',slots:=#[]}->EP X pins σ Q (.ref s.heap.objs.size) {s with heap:=h'}:=fun its r' hz h' c' kp e =>
  ⟨.ref s.heap.objs.size,_,I.laid (t':=s.toks) kp (aE _) (show eE X.prog X.w _ h' _ (.lst ys) from ⟨hz,its,c',r',e⟩),rfl,q _ (I.hok.fresh (aE _))⟩
 rcases hq with hq | hq
 ·obtain ⟨its,r',pl,hz⟩:=I.list hq;have hlen:=r'.length;obtain ⟨o,ho,hc,n,hd⟩:=pl.isList;exact call_list_seq p (.inl rfl) ho hc hd (fun h' c' kp e=>fin its r' hz h' c' kp e) (by simp only [aB] <;> omega)
 ·obtain ⟨its,r',pl,hz⟩:=I.tuple hq;have hlen:=r'.length;obtain ⟨o,ho,hc,n,hd⟩:=pl;exact call_list_seq p (.inr rfl) ho hc hd (fun h' c' kp e=>fin its r' hz h' c' kp e) (by simp only [aB] <;> omega)
theorem vP:oQ X (.type "tuple") (fun xs H Q=>∃ p ys,xs=[.ref p]/\((SqL X.K H p ys/\∀ l,H l=none->Q (.ref l) (upd H l (.tup ys)))\/(SqT X.K H p ys/\Q (.ref p) H))):=by
 intro pins s σ H xs us Q I r h;obtain ⟨p,ys,rfl,h⟩:=h;obtain ⟨u,rfl,rx⟩:=vals1 r
 cases rx
 rcases h with ⟨hq,q⟩ | ⟨hq,q⟩
 ·obtain ⟨its,r',pl,hz⟩:=I.list hq;have hlen:=r'.length;refine call_tuple_list pl.isList (fun h' kp=>?_) (by simp only [aB] <;> omega);have I1:Inv X pins σ H {s with heap:=h'}:=I.kept (t':=s.toks) kp;have I2:Inv X pins σ (upd H h'.objs.size (.tup ys)) {s with heap:=h'.push {cls:=.type "tuple",data:=.seq its.toArray}}:=
   I1.laid (t':=s.toks) (fun b o e=>aJ _ e) (aE _) (show eE X.prog X.w _ _ _ (.tup ys) from ⟨hz,its,r',Et _ _⟩)
  exact ⟨.ref h'.objs.size,_,I2,rfl,q _ (I1.hok.fresh (aE _))⟩
 ·obtain ⟨its,r',pl,hz⟩:=I.tuple hq;exact call_tuple_same pl ⟨.ref p,H,I,rfl,q⟩
def tyV (K:ae) (T:String) (x:V) (H:Hp):Prop:=match x with
 | .str _=>T="str"
 | .int _=>T="int"
 | .ref p=>(T="list"/\∃ xs,SqL K H p xs)\/(T="tuple"/\∃ o,K.lookup p=some o/\o.cls=.type "tuple"/\o.dict=none) \/
   (T="dict"/\((∃ kvs,H p=some (.dK kvs))\/∃ kvs,H p=some (.dT kvs)))\/(T="set"/\∃ S n,H p=some (.set S n))
 | _=>False
theorem EA {pins:List (aa×Obj)} {σ:St} {H:Hp} {s:ar} {T:String} {x:V} {v:af} (I:Inv X pins σ H s) (r:RelV x v) (ty:tyV X.K T x H) :
  s.TypeIs v T/\∀ a,v=.ref a->∃ ob,s.heap.get? a=some ob/\ob.dict=none:=by
 cases x with
 | str z =>
  obtain ⟨t,rfl⟩:=r
  cases (show T="str" from ty);exact ⟨typeIs_str s z t,fun _ e=>nomatch e⟩
 | int i =>
  obtain ⟨t,rfl⟩:=r
  cases (show T="int" from ty);exact ⟨typeIs_int s i t,fun _ e=>nomatch e⟩
 | ref p =>
  cases r
  rcases ty with ⟨rfl,xs,hq⟩ | ⟨rfl,o,hk,hc,hd⟩ | ⟨rfl,hk⟩ | ⟨rfl,S,n,hk⟩
  ·obtain ⟨its,_,pl,_⟩:=I.list hq;refine ⟨pl.isList.typeIs,fun a e=>?_⟩
   cases e;obtain ⟨o,n,e,c,hd,_⟩:=pl;exact ⟨o,e,hd⟩
  ·refine ⟨⟨o,I.kIn p o hk,hc⟩,fun a e=>?_⟩
   cases e;exact ⟨o,I.kIn _ o hk,hd⟩
  ·have z:∃ o,s.heap.get? p=some o/\o.ExactDict:=by
    rcases hk with ⟨kvs,hk⟩ | ⟨kvs,hk⟩
    ·obtain ⟨_,_,_,_,o,_,_,e,ex,_⟩:=I.hok p _ hk;exact ⟨o,e,ex⟩
    ·obtain ⟨_,_,_,_,o,_,_,e,ex,_⟩:=I.hok p _ hk;exact ⟨o,e,ex⟩
   obtain ⟨o,e,ex⟩:=z;refine ⟨⟨o,e,ex.1⟩,fun a e2=>?_⟩
   cases e2;exact ⟨o,e,ex.2.1⟩
  ·obtain ⟨o,_,_,_,e,ex,_⟩:=I.hok p _ hk;refine ⟨⟨o,e,ex.1⟩,fun a e2=>?_⟩
   cases e2;exact ⟨o,e,ex.2.1⟩
 | _=>exact dN ty
def tBM0 (K:ae) (T:String) (r:V->List V->Hp->VK->Prop) (to:TE):TE:=fun σ H Q=>to σ H fun x H1=>tyV K T x H1/\r x [] H1 Q
def tBM (K:ae) (T:String) (r:V->List V->Hp->VK->Prop) (to:TE) (t:TA):TE:=fun σ H Q=>to σ H fun x H1=>tyV K T x H1/\t σ H1 fun xs H2=>r x xs H2 Q
variable {o e:cZ} {es:List cZ} {to:TE} {t:TA} {name:Str} {apos cpos:Pos} {T id:String} {r:V->List V->Hp->VK->Prop}
theorem KM (pa:PlainAttrs T) (slot:Slot T name id) (hty:typeOf (.builtin id)=pure (.type "method_descriptor")) (hm:MtR X id r) (ho:PE X o to)
  (hbase:lC o name X.env (fy o X.env)=fy o X.env:=by rfl) (hline:(apos.endLine == cpos.line)=true:=by rfl):PE X (.Call (.Attribute o name apos) [] [] cpos) (tBM0 X.K T r to):=by
 intro pins s σ H Q I h;refine Dw hbase hline (thn (ho pins s σ H _ I h) fun v s1 ⟨x,H1,I1,r1,ty,q1⟩=>?_);obtain ⟨h1,h2⟩:=EA I1 r1 ty;exact ⟨T,id,pa,slot,hty,h1,h2,oC rfl (A9 (hm pins s1 σ H1 x [] v [] Q I1 r1 .nil q1))⟩
theorem kQ (pa:PlainAttrs T) (slot:Slot T name id) (hty:typeOf (.builtin id)=pure (.type "method_descriptor")) (hm:MtR X id r) (ho:PE X o to) (ha:PA X (e :: es) t)
  (hbase:lC o name X.env (fy o X.env)=fy o X.env:=by rfl)
  (hfew:((jd cpos (cM (e :: es) X.env)).all (fun x=>!x.1) && (nC cpos (je [] X.env)).all (fun x=>x.1.isSome)
   && decide ((e :: es).length + ([]:List MJ).length + (if ([]:List MJ).isEmpty then 0 else 1) < 30))=true:=by rfl)
  (hline:(apos.endLine == cpos.line)=true:=by rfl) (hs:cM (e :: es) X.env=(false,fy e X.env) :: cM es X.env:=by rfl) (hplain:(jd cpos (cM es X.env)).any (·.1)=false:=by rfl) :
  PE X (.Call (.Attribute o name apos) (e :: es) [] cpos) (tBM X.K T r to t):=by
 intro pins s σ H Q I h;refine wpAny_Call_method_late hbase hfew hline rfl (thn (ho pins s σ H _ I h) fun v s1 ⟨x,H1,I1,r1,ty,q1⟩=>?_);obtain ⟨h1,h2⟩:=EA I1 r1 ty;refine ⟨T,id,pa,slot,hty,h1,h2,?_⟩;have hA:=ha cpos pins s1 σ H1 _ I1 q1;rw [hs] at hA |-;refine oC (by show (false || (jd cpos (cM es X.env)).any (·.1))=false; rw [hplain] <;> rfl) (z5 ?_);exact thn hA fun us s2 ⟨vs,H2,I2,r2,q2⟩=>hm pins s2 σ H2 x vs v us Q I2 r1 r2 q2
end
def MtM (X:Cx) (id:String) (r:V->List V->Hp->VK->Prop):Prop:=
 ∀ (pins:List (aa×Obj)) (s:ar) (σ:St) (H:Hp) (x:V) (xs:List V) (v:af) (us:List af) (Q:VK),Inv X pins σ H s->RelV x v->cX xs us->r x xs H Q ->
  aW (bJ X.prog X.w) X.A (xr (.builtin id) (v :: us)) (EP X pins σ Q) X.xe s
theorem cX.one:∀ {x:V} {us:List af},cX [x] us->∃ u,us=[u]/\RelV x u
 | _,_,.cons r .nil=>⟨_,rfl,r⟩
theorem cX.two:∀ {x y:V} {us:List af},cX [x,y] us->∃ u v,us=[u,v]/\RelV x u/\RelV y v
 | _,_,_,.cons r (.cons q .nil)=>⟨_,_,rfl,r,q⟩
theorem cX.zero:∀ {us:List af},cX [] us->us=[]
 | _,.nil=>rfl
theorem cX.dropLast {xs:List V} {us:List af} (h:cX xs us):cX xs.dropLast us.dropLast:=by
 induction h with
 | nil=>exact .nil
 | cons r t ih =>
  cases t with
  | nil=>exact .nil
  | cons q t'=>exact .cons r ih
theorem cX.eraseIdx:∀ {xs:List V} {us:List af} (i:Nat),cX xs us->cX (xs.eraseIdx i) (us.eraseIdx i)
 | _,_,_,.nil=>.nil
 | _,_,0,.cons _ t=>t
 | _,_,i + 1,.cons r t=>.cons r (cX.eraseIdx i t)
theorem cX.reverse {xs:List V} {us:List af} (h:cX xs us):cX xs.reverse us.reverse:=by
 induction h with
 | nil=>exact .nil
 | cons r t ih=>rw [EB,EB]; exact cX.append ih (.cons r .nil)
theorem z6 {α:Type} (l:List α):l.eraseIdx (l.length - 1)=l.dropLast:=by
 induction l with
 | nil=>rfl
 | cons a r ih =>
  cases r with
  | nil=>rfl
  | cons b r =>
   have e:(a :: b :: r).length - 1=((b :: r).length - 1) + 1:=by
    have h1:(a :: b :: r).length=r.length + 2:=rfl;have h2:(b :: r).length=r.length + 1:=rfl;omega
   rw [e,List.eraseIdx_cons_succ,ih]
   all_goals rfl
theorem wF {α:Type}:∀ (l:List α) (i:Nat),(l.eraseIdx i).length<=l.length
 | [],_=>aE _
 | _ :: _,0=>gc _
 | _ :: r,i + 1=>Nat.succ_le_succ (wF r i)
section
variable {X:Cx} {pins:List (aa×Obj)} {σ:St} {H:Hp} {s:ar} {l b:aa} {xs ys zs:List V}
theorem Inv.lset {its its':List af} {n:Nat} {f:Array af->Array af} {t':Nat} (I:Inv X pins σ H s) (hH:H l=some (.lst xs))
  (e:s.heap.get? l=some {cls:=.type "list",data:=.seq its.toArray n}) (hf:f its.toArray=its'.toArray) (hv:cX ys its') (hz:ys.length<=au) :
  Inv X pins σ (upd H l (.lst ys)) {s with heap:=s.heap.update l (df f),toks:=t'}:=by
 have q:=PySem.IsL.update e f;rw [hf] at q;refine I.write (x:=l) (e:=l) (by rw [hH]; exact trivial) (.inl rfl) (fun b' u hb hu=>(fc s.heap (df f) (fV hb)).trans hu) ⟨_,q⟩ ?_;exact ⟨hz,its',_,hv,q⟩
theorem Inv.lnew {its:List af} {t':Nat} (I:Inv X pins σ H s) (hv:cX ys its) (hz:ys.length<=au) :
  Inv X pins σ (upd H s.heap.objs.size (.lst ys)) {s with heap:=s.heap.push {cls:=.type "list",data:=.seq its.toArray},toks:=t'}:=
 I.laid (fun _ _ q=>aJ _ q) (aE _) ⟨hz,its,0,hv,cz _ rfl⟩
theorem Inv.fresh (I:Inv X pins σ H s):H s.heap.objs.size=none:=I.hok.fresh (aE _)
theorem Inv.lstM (I:Inv X pins σ H s) (hH:H l=some (.lst xs)):xs.length<=au/\∃ (its:List af) (n:Nat),cX xs its/\xs.length=its.length/\s.heap.get? l=some {cls:=.type "list",data:=.seq its.toArray n}:=by
 obtain ⟨z,its,n,r,e⟩:=I.hok l _ hH;exact ⟨z,its,n,r,r.length,e⟩
theorem EC {n:Nat} (h:n<=au):kI n=false:=by
 unfold kI;exact decide_eq_false (by omega)
end
section
variable {X:Cx}
inductive AppI (x:V) (vs:List V) (H:Hp) (Q:VK):Prop where
 | mk (l:aa) (xs:List V) (y:V) (hx:x=.ref l) (hv:vs=[y]) (h:H l=some (.lst xs)) (n:xs.length < au) (q:Q .non (upd H l (.lst (xs++[y])))):AppI x vs H Q
def HB:V->List V->Hp->VK->Prop:=fun x vs H Q=>AppI x vs H Q
theorem gN:MtM X "list.append" HB:=by
 intro pins s σ H x vs v us Q I rx rv h;obtain ⟨l,xs,y,rfl,rfl,hH,hz,q⟩:=h
 cases rx;obtain ⟨u,rfl,ru⟩:=rv.one;obtain ⟨z,its,n,r,hl,e⟩:=I.lstM hH;refine qI F.slot_list_append ⟨_,e,rfl⟩ F.entry_list_append (F.args_list_append_2 _ _) (PySem.list_append l its.toArray n u (by rw [aB]; omega)) ⟨e,?_⟩;refine ⟨.non,_,I.lset (its':=its++[u]) hH e (by simp) (r.append (.cons ru .nil)) ?_,rfl,q⟩;rw [ax,z7];omega
def HC:V->List V->Hp->VK->Prop:=fun x vs H Q=>∃ l b xs zs,x=.ref l/\vs=[.ref b]/\H l=some (.lst xs)/\H b=some (.lst zs)/\xs.length + zs.length<=au/\Q .non (upd H l (.lst (xs++zs)))
theorem mt_extend:MtM X "list.extend" HC:=by
 intro pins s σ H x vs v us Q I rx rv h;obtain ⟨l,b,xs,zs,rfl,rfl,hH,hB,hz,q⟩:=h
 cases rx;obtain ⟨u,rfl,ru⟩:=rv.one
 cases ru;obtain ⟨z,its,n,r,hl,e⟩:=I.lstM hH;obtain ⟨z2,its2,n2,r2,hl2,e2⟩:=I.lstM hB;have hsz:its.toArray.size + its2.toArray.size<=au:=by rw [aB,aB]; omega
 have hlong:¬ (!its.toArray.isEmpty && kI (its.toArray.size + its2.toArray.size))=true:=by
  rw [EC hsz,Bool.and_false];exact cg
 refine qI F.slot_list_extend ⟨_,e,rfl⟩ F.entry_list_extend (F.args_list_extend_2 _ _)
  (AutoSeq1.list_extend_list_list_0 l its.toArray n b its2.toArray n2 hlong (by rw [aB]; omega) (by omega)) ⟨e,e2,?_⟩
 refine ⟨.non,_,I.lset (its':=its++its2) hH e (by simp) (r.append r2) ?_,rfl,q⟩;rw [ax];omega
def rPop:V->List V->Hp->VK->Prop:=fun x vs H Q=>∃ l xs y,x=.ref l/\vs=[]/\H l=some (.lst xs)/\xs[xs.length - 1]?=some y/\Q y (upd H l (.lst xs.dropLast))
theorem KN:MtM X "list.pop" rPop:=by
 intro pins s σ H x vs v us Q I rx rv h;obtain ⟨l,xs,y,rfl,rfl,hH,hy,q⟩:=h
 cases rx;have hus:=rv.zero;subst hus;obtain ⟨z,its,n,r,hl,e⟩:=I.lstM hH;obtain ⟨u,hu,ru⟩:=r.get hy;have hy':its.toArray[its.toArray.size - 1]?=some u:=by
  show its.toArray[its.length - 1]?=some u;rw [<- zB,<- hl];exact hu
 refine qI F.slot_list_pop ⟨_,e,rfl⟩ F.entry_list_pop (F.args_list_pop_1 _) (MeetsSeq.list_pop_last l its.toArray n u hy' (by rw [aB]; omega)) ⟨e,?_⟩;refine ⟨y,_,I.lset (its':=its.dropLast) hH e ?_ r.dropLast ?_,ru,q⟩
 ·show its.toArray.eraseIdxIfInBounds (its.toArray.size - 1)=its.dropLast.toArray;rw [aB,ue,z6]
 ·rw [kx];omega
def KO:V->List V->Hp->VK->Prop:=fun x vs H Q=>∃ l xs i k y,x=.ref l/\vs=[.int i]/\H l=some (.lst xs)/\-(2 ^ 63)<=i/\i < 2 ^ 63/\seqIndex? i xs.length=some k/\xs[k]?=some y/\Q y (upd H l (.lst (xs.eraseIdx k)))
theorem ED:MtM X "list.pop" KO:=by
 intro pins s σ H x vs v us Q I rx rv h;obtain ⟨l,xs,i,k,y,rfl,rfl,hH,h1,h2,hk,hy,q⟩:=h
 cases rx;obtain ⟨u,rfl,ru⟩:=rv.one;obtain ⟨t,rfl⟩:=ru;obtain ⟨z,its,n,r,hl,e⟩:=I.lstM hH;obtain ⟨w,hw,rw'⟩:=r.get hy;refine qI F.slot_list_pop ⟨_,e,rfl⟩ F.entry_list_pop (F.args_list_pop_2 _ _)
  (MeetsSeq.list_pop_at l its.toArray n i t k w (fitsIndex_both h1 h2) (by rw [aB,<- hl]; exact hk) (by rw [<- zB]; exact hw) (by rw [aB]; omega)) ⟨e,?_⟩
 refine ⟨y,_,I.lset (its':=its.eraseIdx k) hH e ?_ (r.eraseIdx k) ?_,rw',q⟩
 ·show its.toArray.eraseIdxIfInBounds k=(its.eraseIdx k).toArray;rw [ue]
 ·have:=wF xs k;omega
def rCat:R2:=fun x y H Q=>∃ l b xs zs,x=.ref l/\y=.ref b/\H l=some (.lst xs)/\H b=some (.lst zs)/\xs.length + zs.length<=au/\∀ p,H p=none->Q (.ref p) (upd H p (.lst (xs++zs)))
theorem kS:OpR X (ij .Add) rCat:=by
 intro pins s σ H x y v u Q I rx ry h;obtain ⟨l,b,xs,zs,rfl,rfl,hH,hB,hz,q⟩:=h
 cases rx
 cases ry;obtain ⟨z,its,n,r,hl,e⟩:=I.lstM hH;obtain ⟨z2,its2,n2,r2,hl2,e2⟩:=I.lstM hB;refine PySem.P.add_list e e2 ?_ (by rw [aB,aB]; omega);have ea:its.toArray++its2.toArray=(its++its2).toArray:=by simp
 rw [ea];exact ⟨.ref _,_,I.lnew (t':=s.toks) (r.append r2) (by rw [ax]; omega),rfl,q _ I.fresh⟩
end
section
variable {prog:aL} {w:bN} {A:bZ} {E:af->ar->Prop} {s:ar}
end
section
variable {X:Cx}
end
end L2
namespace Att
open PySem PySem.W PySem.Calls PyProof.Rows
theorem ints_of_wellAll {P:Params} {h:cF}:∀ (ns:List Int) (vs:List af),WellAll P h vs (ns.map WData.int)->fv vs ns:=by
 intro ns
 induction ns with
 | nil =>
  intro vs w;rw [zA] at w
  cases w;exact .nil
 | cons n ns ih =>
  intro vs w;rw [cu] at w
  cases w with
  | cons a b =>
   cases a;exact .cons _ _ (ih _ b)
theorem script_of {l:OpenLaw} {n:Nat} (hn:l.most=some n) {P:Params} {h:cF} {args:List WData} {vals:List af}
  (hpre:l.row.toRowW.claim.pre args=true) (hwl:WellAll P h vals args) :
  ∃ a vs ns,vals=[Value.ref a]/\args=[WData.list (ns.map WData.int)]/\h.get? a=some {cls:=.type "list",data:=.seq vs.toArray}/\fv vs ns/\ns.length<=n:=by
 have hsh:WShape.hasAll [] args [.list .int]=true:=(pre_splitW hpre).1;have hc:l.pre.holds [] {args:=args}=true:=(pre_splitW hpre).2;obtain ⟨d,r,rfl,h1,h2⟩:=hasAllW_cons hsh;obtain rfl:=hasAllW_nil h2;obtain ⟨xs,rfl,h3⟩:=hasW_list h1;obtain ⟨ns,rfl⟩:=items_int h3;have hlen:ns.length<=n:=by
  unfold OpenLaw.pre at hc;have h4:(WTm.not (.lt (.lit (.int (n:Int))) (.len (.arg 0)))).holds [] {args:=[.list (ns.map .int)]}=true:=by
   have h4:=(holds_andW hc).1;rw [hn] at h4;exact h4
  have h5:=condW_of h4 (w_not (w_lt w_lit (w_len_list (w_arg rfl))));rw [ai] at h5;refine Nat.le_of_not_lt fun q=>?_;have q':(n:Int) < ((ns.length:Nat):Int):=by omega
  first
   |(rw [decide_eq_true q'] at h5; exact absurd h5 (by decide))
   |(simp at h5; omega)
 cases hwl with
 | cons w1 w2 =>
  cases w2
  cases w1 with
  | list ho hall=>exact ⟨_,_,ns,rfl,rfl,ho,ints_of_wellAll ns _ hall,hlen⟩
theorem post_true (l:OpenLaw) (args:List WData):l.row.toRowW.claim.post args (.bool true) args=true:=
 postW_of (r:=l.row.toRowW) (X:=(true == true))
  (show MM [] (.bool true) .bool=true by first | rfl | decide | simp [MM,WShape.arms,WShape.armsAll])
  (show (WTm.eq .res (.lit (.bool true))).value [] {args:=args,res:=some (.bool true),after:=args}=some (.bool (true == true)) from w_eq_bool (w_res rfl) w_lit) rfl
section
variable {prog:aL} {w:bN} {A:bZ} {E:af->ar->Prop} {s:ar} {K:Frag}
end
end Att
namespace L2
open PySem PySem.Spec PyProof.Rows
theorem wG:∀ {vs:List af} {ns:List Int},fv vs ns->cX (ns.map V.int) vs
 | _,_,.nil=>.nil
 | _,_,.cons n t h=>.cons ⟨t,rfl⟩ (wG h)
def Only (H:Hp):Prop:=∀ b,H b=none\/∃ o xs,H b=some (.frz o (.lst xs))
theorem EE {P:aL} {w:bN} {K:ae} {mg mb:Str->Option af} {CX:CXT} {k:Nat} {fa a:aa} {fd:cw} {x:Str} {sp:Sp} {s₁:ar} {vs:List af} {ns:List Int}
  (KX:K.In s₁.heap) (hns:s₁.heap.Ns bP mg) (hb:s₁.heap.Ns Kr mb) (hbb:∀ x:Str,x≠"__name__"->mb x=gf x) (hlim:s₁.heap.NoLimit) (hg:s₁.gens=#[])
  (ha:s₁.heap.get? a=some {cls:=.type "list",data:=.seq vs.toArray}) (hi:fv vs ns) (hl:ns.length<=au) (hr:d5 k vQ)
  (F:∀ base:cF,K.In base->base.Ns bP mg->cm P w K mg base CX k fa fd [x] sp) (hbind:∀ (s:ar) (u:af),tP s fd ⟨[u],[]⟩ [(x,u)])
  (hsp:∀ H:Hp,Only H->SqL K H a (ns.map V.int)->sp [.ref a] H (fun v _=>v=.bl true) fun _ _ _=>False)
  (hCX:∀ H e s',CX [] H s₁ (fun _ _ _=>False) e s'->False) :
  oK (bJ P w) vQ (.call (.ref fa) ⟨[.ref a],[]⟩) (fun r s'=>r=.ok (.ret (.bool true))/\OldK s₁.heap s'.heap/\s'.os=s₁.os/\oG s'.gens) s₁:=by
 have rv:=wG hi;have lenV:=hi.length
 -- from an abstract heap in which nothing but the script may be tracked
 have core:∀ H:Hp,Only H->SqL K H a (ns.map V.int)->HOk P w H s₁.heap->(∀ b,H b≠none->b=a)->(H a≠none->K.lookup a=none) ->
   oK (bJ P w) vQ (.call (.ref fa) ⟨[.ref a],[]⟩) (fun r s'=>r=.ok (.ret (.bool true))/\OldK s₁.heap s'.heap/\s'.os=s₁.os/\oG s'.gens) s₁:=by
  intro H hO hS hok hA hK;have base_of:∀ {b:aa} {o:Obj},s₁.heap.get? b=some o->H b=none->(xl s₁.heap H).get? b=some o:=fun e n=>DK e n;have noA:∀ {b:aa} {o:Obj} {es:Array DictEntry} {ep:Nat},s₁.heap.get? b=some o->o.data=.dict es ep->H b=none:=fun {b o es ep} e d=>by
   cases q:H b with
   | none=>rfl
   | some u =>
    have e':b=a:=hA b (by rw [q]; simp);subst e';rw [ha] at e; cases e;have d':Data.seq vs.toArray _=Data.dict es ep:=d
    cases d'
  have nsK:∀ {b:aa} {m:Str->Option af},s₁.heap.Ns b m->(xl s₁.heap H).Ns b m:=fun {b m} ⟨o,es,ep,e,d,r⟩=>⟨o,es,ep,base_of e (noA e d),d,r⟩;have hKb:K.In (xl s₁.heap H):=fun b o e=>base_of (KX b o e) (by
   cases q:H b with
   | none=>rfl
   | some u =>
    have e':b=a:=hA b (by rw [q]; simp);subst e';rw [hK (by rw [q]; simp)] at e; cases e)
  have hM:Mod K mg (xl s₁.heap H):=⟨hKb,nsK hns,⟨mb,nsK hb,hbb⟩,let ⟨mc,h1,h2⟩:=hlim; ⟨mc,nsK h1,h2⟩⟩;have e0:xy P w K mg (xl s₁.heap H) vQ [] s₁ H:=⟨rfl,hM,fun b o e=>Hl e,Nat.le_of_eq (Cd _ _),trivial,fun b hb=>absurd (show b∈([]:List aa) from hb) (by simp),hok,.of_eq hg⟩;refine mE ((F _ hKb (nsK hns)).run vQ [] s₁ H ⟨[.ref a],[]⟩ [.ref a] [.ref a] _ _ hr e0 (hbind s₁ (.ref a)) (.cons rfl .nil) (hsp H hO hS)) fun r s' h=>?_
  cases r with
  | error e=>exact (hCX H e s' h).elim
  | ok fl =>
   cases fl with
   | next=>exact dN h
   | brk=>exact dN h
   | cont=>exact dN h
   | ret u =>
    obtain ⟨v,H',os,bare,un,hok',r',q⟩:=h;have q':v=.bl true:=q;subst q';obtain rfl:u=Value.bool true:=r';refine ⟨rfl,OldK.of_keep fun b o e=>?_,os,bare⟩
    cases q:H b with
    | none=>exact un.keep b o e q (by intro z; exact absurd (show b∈([]:List aa) from z) (by simp)) (by simp)
    | some u =>
     rcases hO b with z | ⟨ob,xs,z⟩
     ·rw [q] at z; cases z
     ·have z2:=un.frzs b ob _ z;obtain ⟨e1,_⟩:=hok b _ z;obtain ⟨e2,_⟩:=hok' b _ z2;rw [e] at e1; cases e1;exact e2
 cases hk:K.lookup a with
 | some o =>
  -- the script is one of the module's own objects
  have e:=KX a o hk;rw [ha] at e
  cases e;refine core (fun _=>none) (fun _=>.inl rfl) (.inr ⟨_,vs.toArray,_,hk,rfl,rfl,rfl,by rw [aB,lenV]; exact hl,by simpa using rv⟩) (fun b u z=>by have z':(none:Option HO)=some u:=z; cases z') (fun b z=>absurd rfl z) fun z=>absurd rfl z
 | none =>
  refine core (fun b=>if b=a then some (.frz {cls:=.type "list",data:=.seq vs.toArray} (.lst (ns.map V.int))) else none) (fun b=>?_) (.inl (.inr ⟨{cls:=.type "list",data:=.seq vs.toArray},if_pos rfl⟩)) (fun b u z=>?_) (fun b z=>?_) fun _=>hk
  ·by_cases hb:b=a
   ·exact .inr ⟨_,_,if_pos hb⟩
   ·exact .inl (if_neg hb)
  ·by_cases hb:b=a
   ·have z':=(if_pos hb).symm.trans z
    cases z';subst hb;exact ⟨ha,by rw [ai]; exact hl,vs,_,rv,ha⟩
   ·have z':=(if_neg hb).symm.trans z
    cases z'
  ·by_cases hb:b=a
   ·exact hb
   ·exact absurd (if_neg hb) z
def gF (s:dJ) (j:Nat):dJ:=match s with
 | .ClassDef _ _ _ body _ _ _ _ _ _ _=>body.getD j (.Pass ⟨0,0,0,0⟩)
 | _=>.Pass ⟨0,0,0,0⟩
def kC (s:dJ):Arguments:=match s with
 | .FunctionDef _ a _ _ _ _ _ _ _ _=>a
 | _=>{posonlyargs:=[],args:=[],vararg:=none,kwonlyargs:=[],kw_defaults:=[],kwarg:=none,defaults:=[]}
def i5 (s:dJ):List dJ:=match s with
 | .FunctionDef _ _ b _ _ _ _ _ _ _=>b
 | _=>[]
def aQ (s:dJ):lE:=match s with
 | .FunctionDef _ _ _ _ _ _ sc _ _ _=>sc
 | _=>{kind:=.function,names:=[],isGenerator:=false,isCoroutine:=false}
abbrev CX0:CXT:=fun _ _ _ _ _ _=>False
abbrev E0:XK:=fun _ _ _=>False
theorem bY {X:Cx}:lY CX0 X E0:=fun _ _ _ _ _ _ _ h=>h.elim
structure Fun (K:ae) (x qual:Str) (st:dJ) (f:aa) (fd:cw):Prop where
 ex:∃ (oc:af) (od:Option aa) (kV doc pm:af) (an:Option aa) (cdv ct:af) (osl:Array (Option af)),
  fd=eW x qual (kC st) (i5 st) (aQ st) .none kV doc pm an cdv ct/\K.lookup f=some ⟨oc,od,.func fd,osl⟩/\jz K cdv qual=true
 kp:gB K (.ref f)=true
section
variable {P:aL} {w:bN} {K:ae} {mg:Str->Option af} {base:cF}
theorem Fun.ok {x qual:Str} {st:dJ} {f:aa} {fd:cw} {N ps:List Str} {k:Nat} {sp:Sp} (F:Fun K x qual st f fd) (S:cv N ps (aQ st)) (len:∀ vs H Q E,sp vs H Q E->vs.length=ps.length)
  (hbody:∀ (cdv:af) (A:bZ) (outer:List Env) (s:ar) (H:Hp) (vs:List V) (Q:VK) (E:XK),d5 k (A.deeper (sO qual (aQ st) s.heap.objs.size f cdv))->sp vs H Q E ->
   ∃ t,PSs (sN CX0 P w K mg base N qual (aQ st) f cdv A outer s H E).nox (i5 st) t/\t {nx:=fun _ H'=>Q .non H',rt:=Q} (start N vs) H):cm P w K mg base CX0 (k + 1) f fd ps sp:=by
 obtain ⟨oc,od,kV,doc,pm,an,cdv,ct,osl,rfl,lk,hcd⟩:=F.ex;refine Ju lk hcd S len fun A outer s H vs Q E hr hsp=>?_;obtain ⟨t,h,q⟩:=hbody cdv A outer s H vs Q E hr hsp;exact ⟨t,h.nox,q⟩
theorem Fun.binds {x qual:Str} {st:dJ} {f:aa} {fd:cw} {ps:List Str} (F:Fun K x qual st f fd)
  (h:∀ (kV doc pm:af) (an:Option aa) (cdv ct:af) (us:List af),us.length=ps.length->zS (eW x qual (kC st) (i5 st) (aQ st) .none kV doc pm an cdv ct) ⟨us,[]⟩=pure (ps.zip us)):Binds K fd ps []:=by
 obtain ⟨oc,od,kV,doc,pm,an,cdv,ct,osl,rfl,lk,hcd⟩:=F.ex;exact .all (h kV doc pm an cdv ct)
theorem EF {x qual:Str} {st:dJ} {f:aa} {oc:af} {od an:Option aa} {osl:Array (Option af)} {kV doc pm cdv ct:af} (l:K.lookup f=some ⟨oc,od,.func (eW x qual (kC st) (i5 st) (aQ st) .none kV doc pm an cdv ct),osl⟩)
  (c:jz K cdv qual=true) (k:gB K (.ref f)=true):Fun K x qual st f (eW x qual (kC st) (i5 st) (aQ st) .none kV doc pm an cdv ct):=⟨⟨oc,od,kV,doc,pm,an,cdv,ct,osl,rfl,l,c⟩,k⟩
end
theorem qx {A:bZ} {k:Nat} (hr:d5 k A):A.units + 1 < d8:=jA (Dx (by decide:1<=64) _) hr.units
section
variable {X:Cx}
theorem pv (i:Nat) {x:Str} {pos:Pos} (hN:X.N[i]?=some x:=by rfl) (hv:Vis X.env.scope x:=by first | exact Or.inl rfl | exact Or.inr (Or.inl rfl) | exact Or.inr (Or.inr rfl)) (hd:(x == ("__debug__":Str))=false:=by decide)
  (hcd:(x == ("__classdict__":Str))=false:=by decide):PE X (.Name x pos) (xm i):=Ks hN hv hd hcd
end
theorem gi {A B:Prop} (h:B):if false=true then A else B:=by
 rw [if_neg cg];exact h
theorem iF {A B:Prop} (h:A):if true=true then A else B:=by
 rw [if_pos rfl];exact h
theorem gS {c A B:Prop} [Decidable c] (h1:c->A) (h2:¬ c->B):if c then A else B:=by
 by_cases h:c
 ·rw [if_pos h];exact h1 h
 ·rw [if_neg h];exact h2 h
def bj (H H':Hp):Prop:=∀ b o,H b=some o->H' b=some o
theorem bj.refl (H:Hp):bj H H:=fun _ _ h=>h
theorem bj.trans {H H1 H2:Hp} (a:bj H H1) (b:bj H1 H2):bj H H2:=fun c o h=>b c o (a c o h)
theorem bj.free {H H':Hp} (e:bj H H') {l:aa} (h:H' l=Option.none):H l=Option.none:=by
 cases q:H l with
 | none=>rfl
 | some o =>
  rw [e l o q] at h
  cases h
section
variable {κ:Type} [DecidableEq κ]
def lI (kvs:List (κ×V)) (k:κ):Option V:=(kvs.find? fun kv=>decide (kv.1=k)).map (·.2)
def jI (kvs:List (κ×V)) (k:κ) (v:V):List (κ×V):=
 if (kvs.any fun kv=>decide (kv.1=k))=true then kvs.map (fun kv=>if kv.1=k then (kv.1,v) else kv) else kvs++[(k,v)]
theorem oZ {p:κ×V} {r:List (κ×V)} {k:κ} (e:p.1=k):lI (p :: r) k=some p.2:=by simp [lI,jo,e]
theorem o4 {p:κ×V} {r:List (κ×V)} {k:κ} (e:¬ p.1=k):lI (p :: r) k=lI r k:=by simp [lI,jo,e]
theorem kT (k:κ):∀ kvs:List (κ×V),(kvs.any fun kv=>decide (kv.1=k))=(lI kvs k).isSome
 | []=>rfl
 | p :: r=>by
  rw [yu]
  by_cases e:p.1=k
  ·simp only [oZ e,decide_eq_true e,Bool.true_or,Option.isSome_some]
  ·rw [o4 e,decide_eq_false e,Bool.false_or]; exact kT k r
theorem o5 (kvs:List (κ×V)) (k:κ) (v:V):(jI kvs k v).length<=kvs.length + 1:=by
 unfold jI
 split
 ·rw [ai]; omega
 ·rw [ax,aR,cU]; omega
theorem EG {kvs:List (κ×V)} {k:κ} (v:V) (h:lI kvs k=none):jI kvs k v=kvs++[(k,v)]:=by
 unfold jI;rw [kT,h];exact if_neg (by decide)
theorem qh.isSome_eq {o:Option V} {u:Option af} (r:qh o u):o.isSome=u.isSome:=by
 cases o with
 | none=>cases u with
  | none=>rfl
  | some _=>exact (show False from r).elim
 | some _=>cases u with
  | none=>exact (show False from r).elim
  | some _=>rfl
theorem KV.val {kvs:List (κ×V)} {vs:List (κ×af)} (r:KV kvs vs) (k:κ):qh (lI kvs k) (oM vs k):=by
 unfold KV at r
 induction r with
 | nil=>exact True.intro
 | @cons p q ps qs h t ih =>
  obtain ⟨h1,h2⟩:=h
  by_cases e:p.1=k
  ·have e':q.1=k:=h1.symm.trans e;have b:oM (q :: qs) k=some q.2:=by simp [oM,jo,e']
   rw [oZ e,b]; exact h2
  ·have e':¬ q.1=k:=fun z=>e (h1.trans z);have b:oM (q :: qs) k=oM qs k:=by simp [oM,jo,e']
   rw [o4 e,b]; exact ih
theorem KV.any {kvs:List (κ×V)} {vs:List (κ×af)} (r:KV kvs vs) (k:κ):(kvs.any fun kv=>decide (kv.1=k))=vs.any fun kv=>decide (kv.1=k):=by
 unfold KV at r
 induction r with
 | nil=>rfl
 | cons h t ih=>rw [yu,yu,ih,h.1]
theorem KV.repl {kvs:List (κ×V)} {vs:List (κ×af)} (r:KV kvs vs) (k:κ) {y:V} {u:af} (ry:RelV y u) :
  KV (kvs.map fun kv=>if kv.1=k then (kv.1,y) else kv) (vs.map fun kv=>if kv.1=k then (kv.1,u) else kv):=by
 unfold KV at r |-
 induction r with
 | nil=>exact .nil
 | @cons p q ps qs h t ih =>
  rw [cu,cu];refine .cons ?_ ih;obtain ⟨h1,h2⟩:=h
  by_cases e:p.1=k
  ·rw [if_pos e,if_pos (h1.symm.trans e)]; exact ⟨h1,ry⟩
  ·rw [if_neg e,if_neg (fun z=>e (h1.trans z))]; exact ⟨h1,h2⟩
theorem KV.put {kvs:List (κ×V)} {vs:List (κ×af)} (r:KV kvs vs) (k:κ) {y:V} {u:af} (ry:RelV y u):KV (jI kvs k y) (xI vs k u):=by
 unfold jI xI;rw [r.any k]
 by_cases e:(vs.any fun kv=>decide (kv.1=k))=true
 ·rw [if_pos e,if_pos e]; exact r.repl k ry
 ·rw [if_neg e,if_neg e]; exact eS r ⟨rfl,ry⟩
theorem KV.length {kvs:List (κ×V)} {vs:List (κ×af)} (r:KV kvs vs):kvs.length=vs.length:=aX r
end
theorem yM {P:aL} {w:bN} {k:Key} {u:af} (r:RelV (kV k) u):(fK P w).is k u=true:=by
 cases k with
 | inl i=>obtain ⟨t,e⟩:=(show ∃ t,u=Value.int i t from r); subst e; exact yC P w i t
 | inr x=>obtain ⟨t,e⟩:=(show ∃ t,u=Value.str x t from r); subst e; exact yD P w x t
theorem wI {P:aL} {w:bN}:∀ {ks:List Key} {us:List af},cX (ks.map kV) us->ItemsAre (fK P w) ks us
 | [],_,r=>by rw [zA] at r; cases r; exact .nil
 | k :: ks,_,r=>by
  rw [cu] at r
  cases r with
  | cons h t=>exact .cons (yM h) (wI t)
abbrev KT (H:Hp):List (List Key×V)->List (List Key×aa×af)->Prop:=aI fun p q=>p.1=q.1/\H q.2.1=some (.tup (p.1.map kV))/\RelV p.2 q.2.2
theorem KT.val {H:Hp} {kvs:List (List Key×V)} {xs:List (List Key×aa×af)} (r:KT H kvs xs) (k:List Key):qh (lI kvs k) ((z8 xs k).map (·.2)):=by
 induction r with
 | nil=>exact True.intro
 | @cons p q ps qs h t ih =>
  obtain ⟨h1,_,h2⟩:=h
  by_cases e:p.1=k
  ·have e':q.1=k:=h1.symm.trans e;have b:z8 (q :: qs) k=some q.2:=by simp [z8,jo,e']
   rw [oZ e,b]; exact h2
  ·have e':¬ q.1=k:=fun z=>e (h1.trans z);have b:z8 (q :: qs) k=z8 qs k:=by simp [z8,jo,e']
   rw [o4 e,b]; exact ih
theorem KT.repl {H:Hp} {kvs:List (List Key×V)} {xs:List (List Key×aa×af)} (r:KT H kvs xs) (k:List Key) {y:V} {u:af} (ry:RelV y u) :
  KT H (kvs.map fun kv=>if kv.1=k then (kv.1,y) else kv) (xs.map (putAt k u)):=by
 induction r with
 | nil=>exact .nil
 | @cons p q ps qs h t ih =>
  rw [cu,cu];refine .cons ?_ ih;obtain ⟨h1,h2,h3⟩:=h;unfold putAt
  by_cases e:p.1=k
  ·rw [if_pos e,if_pos (h1.symm.trans e)]; exact ⟨h1,h2,ry⟩
  ·rw [if_neg e,if_neg (fun z=>e (h1.trans z))]; exact ⟨h1,h2,h3⟩
theorem KT.put {H:Hp} {kvs:List (List Key×V)} {xs:List (List Key×aa×af)} (r:KT H kvs xs) (k:List Key) {b:aa} {y:V} {u:af} (hb:H b=some (.tup (k.map kV))) (ry:RelV y u) :
  KT H (jI kvs k y) (storedH xs k b u):=by
 have e:(kvs.any fun kv=>decide (kv.1=k))=(z8 xs k).isSome:=by
  rw [kT,(r.val k).isSome_eq,rY]
 unfold jI storedH;rw [e]
 by_cases q:(z8 xs k).isSome=true
 ·rw [if_pos q,if_pos q]; exact r.repl k ry
 ·rw [if_neg q,if_neg q]; exact eS r ⟨rfl,hb,ry⟩
theorem KT.keeps {H H':Hp} {kvs:List (List Key×V)} {xs:List (List Key×aa×af)} (r:KT H kvs xs) (ht:∀ b ys,H b=some (.tup ys)->H' b=some (.tup ys)):KT H' kvs xs:=
 Paired.mapP r fun _ _ z=>⟨z.1,ht _ _ z.2.1,z.2.2⟩
section
variable {P:aL} {w:bN} {H:Hp} {h:cF} {a:aa}
theorem Jv {u:HO} (ok:HOk P w H h) (e:Rd H a u):eE P w H h a u:=e.ok ok
theorem Ba {kvs:List (Key×V)} (ok:HOk P w H h) (e:Rd H a (.dK kvs)):kvs.length<=au/\(a == fj)=false/\∃ vs,KV kvs vs/\h.DictOf (fK P w) a vs:=
 show eE P w H h a (.dK kvs) from Jv ok e
theorem dk_of {kvs:List (Key×V)} (ok:HOk P w H h) (e:H a=some (.dK kvs)):kvs.length<=au/\(a == fj)=false/\∃ vs,KV kvs vs/\h.DictOf (fK P w) a vs:=Ba ok (.inl e)
theorem xJ {ks:List Key} (ok:HOk P w H h) (e:H a=some (.tup (ks.map kV))):(xk (fK P w)).is h ks a:=by
 obtain ⟨_,its,r,o,h1,h2,n,h3⟩:=(show eE P w H h a (.tup (ks.map kV)) from ok a _ e);exact ⟨o,its.toArray,n,h1,h2,h3,by simpa using wI r⟩
theorem Bb {kvs:List (List Key×V)} (ok:HOk P w H h) (e:Rd H a (.dT kvs)):kvs.length<=au/\(a == fj)=false /\
  ∃ xs,KT H kvs xs/\h.DictOfH (xk (fK P w)) a xs:=by
 obtain ⟨z,y,xs,r,o,es,ep,h1,h2,h3,h4,h5⟩:=(show eE P w H h a (.dT kvs) from Jv ok e);refine ⟨z,y,xs,r,o,es,ep,h1,h2,h3,h4,fun x hx=>?_,h5⟩;have all:∀ {l:List (List Key×V)} {m:List (List Key×aa×af)},KT H l m->∀ x∈m,(xk (fK P w)).is h x.1 x.2.1:=by
  intro l m q
  induction q with
  | nil=>intro x hx; exact nomatch hx
  | @cons p q ps qs hq t ih =>
   intro x hx
   rcases ay.mp hx with e | hx
   ·subst e;exact xJ ok (by rw [<- hq.1]; exact hq.2.1)
   ·exact ih x hx
 exact all r x hx
theorem dt_of {kvs:List (List Key×V)} (ok:HOk P w H h) (e:H a=some (.dT kvs)):kvs.length<=au/\(a == fj)=false /\
  ∃ xs,KT H kvs xs/\h.DictOfH (xk (fK P w)) a xs:=Bb ok (.inl e)
end
def rm (H:Hp) (a:aa) (y:V) (r:Option V):Prop:=
 (∃ kvs k,Rd H a (.dK kvs)/\y=kV k/\r=lI kvs k)\/∃ kvs k b,Rd H a (.dT kvs)/\y=.ref b/\H b=some (.tup (k.map kV))/\r=lI kvs k
def uf (H:Hp) (a:aa) (y v:V) (H':Hp):Prop:=
 (∃ kvs k,H a=some (.dK kvs)/\y=kV k/\kvs.length < au/\H'=upd H a (.dK (jI kvs k v))) \/
 ∃ kvs k b,H a=some (.dT kvs)/\y=.ref b/\H b=some (.tup (k.map kV))/\kvs.length < au/\H'=upd H a (.dT (jI kvs k v))
theorem rm.k {H:Hp} {a:aa} {kvs:List (Key×V)} {k:Key} (e:H a=some (.dK kvs)):rm H a (kV k) (lI kvs k):=.inl ⟨kvs,k,.inl e,rfl,rfl⟩
theorem uf.k {H:Hp} {a:aa} {kvs:List (Key×V)} {k:Key} {v:V} (e:H a=some (.dK kvs)) (hl:kvs.length < au):uf H a (kV k) v (upd H a (.dK (jI kvs k v))):=.inl ⟨kvs,k,e,rfl,hl,rfl⟩
section
variable {X:Cx} {pins:List (aa×Obj)} {σ:St} {H:Hp} {s:ar} {a:aa} {y v:V} {u r:af} {o:Option V} {A:bZ} {E:af->ar->Prop}
theorem Inv.big (I:Inv X pins σ H s):fj < s.heap.objs.size:=by
 have h:bP < s.heap.objs.size:=(I.mod.glob.keeps I.bk).lt;exact o6 (by decide) h
theorem Cs {Q:af->ar->Prop} (hu:A.units + 1 < d8) (I:Inv X pins σ H s) (g:rm H a y (some v)) (ry:RelV y u) (h:∀ w' s',Inv X pins σ H s'->RelV v w'->Q w' s') :
  aW (bJ X.prog X.w) A (tR (.ref a) u) Q E s:=by
 rcases g with ⟨kvs,k,e,ey,l⟩ | ⟨kvs,k,b,e,ey,eb,l⟩
 ·subst ey;obtain ⟨z,hd,vs,rel,dd⟩:=Ba I.hok e;obtain ⟨w',hw,rw'⟩:=qh.some_of (v:=v) (o:=oM vs k) (by rw [l]; exact rel.val k);exact wpAny_getItem_of (yM ry) dd.mapOf hw (h w' _ (I.tok _) rw')
 ·subst ey
  cases (show u=Value.ref b from ry);obtain ⟨z,hd,xs,rel,dd⟩:=Bb I.hok e;obtain ⟨w',hw,rw'⟩:=qh.some_of (v:=v) (o:=(z8 xs k).map (·.2)) (by rw [l]; exact rel.val k);obtain ⟨p,hp,hp2⟩:=oy.mp hw;refine wpAny_getItem_heap (uY hu) (xJ I.hok eb) dd hp ?_;rw [hp2];exact h w' _ (I.tok _) rw'
theorem d_in {Q:af->ar->Prop} (hu:A.units + 1 < d8) (I:Inv X pins σ H s) (g:rm H a y o) (ry:RelV y u) (h:∀ s',Inv X pins σ H s'->Q (.bool o.isSome) s') :
  aW (bJ X.prog X.w) A (dZ .In u (.ref a)) Q E s:=by
 rcases g with ⟨kvs,k,e,ey,l⟩ | ⟨kvs,k,b,e,ey,eb,l⟩
 ·subst ey;obtain ⟨z,hd,vs,rel,dd⟩:=Ba I.hok e;refine wpAny_in_of (yM ry) hd dd.mapOf ?_;rw [<- (rel.val k).isSome_eq,<- l];exact h _ (I.tok _)
 ·subst ey
  cases (show u=Value.ref b from ry);obtain ⟨z,hd,xs,rel,dd⟩:=Bb I.hok e;refine wpAny_in_heap (uY hu) (xJ I.hok eb) hd dd ?_;have q:=(rel.val k).isSome_eq;rw [rY] at q;rw [<- q,<- l];exact h _ (I.tok _)
theorem Bc {h':cF} {t':Nat} {ob:HO} (I:Inv X pins σ H s) (mu:Mut (H a)) (hs:oH a s.heap h') (he:∃ q,h'.get? a=some q) (new:eE X.prog X.w (upd H a ob) h' a ob) :
  Inv X pins σ (upd H a ob) {s with heap:=h',toks:=t'}:=
 I.write (x:=a) (e:=a) mu (.inl rfl) (fun b q hb z=>(hs.2 b hb).trans z) he new
theorem z9 {P:aL} {w:bN} {H':Hp} {h':cF} {kvs:List (Key×V)} {vs:List (Key×af)} (z:kvs.length<=au) (hd:(a == fj)=false) (rel:KV kvs vs) (dd:h'.DictOf (fK P w) a vs) :
  eE P w H' h' a (.dK kvs):=⟨z,hd,vs,rel,dd⟩
theorem Ct {H':Hp} {Q:Unit->ar->Prop} (hu:A.units + 1 < d8) (I:Inv X pins σ H s) (g:uf H a y v H') (ry:RelV y u) (rv:RelV v r) (h:∀ s',Inv X pins σ H' s'->Q () s') :
  aW (bJ X.prog X.w) A (setItem (.ref a) u r) Q E s:=by
 rcases g with ⟨kvs,k,e,ey,l,eH⟩ | ⟨kvs,k,b,e,ey,eb,l,eH⟩
 ·subst ey eH;obtain ⟨z,hd,vs,rel,dd⟩:=dk_of I.hok e;have hz:vs.length<=au:=by rw [<- rel.length]; exact z
  have hl:(jI kvs k v).length<=au:=by have:=o5 kvs k v; omega
  refine wpAny_setItem_pairs (hsz:=hz) (yM ry) dd fun h' dd' hs=>h _ ?_;have he:∃ q,h'.get? a=some q:=let ⟨q,_,_,hq,_⟩:=dd'; ⟨q,hq⟩;exact Bc I (by rw [e]; exact True.intro) hs he (z9 hl hd (rel.put k rv) dd')
 ·subst ey eH
  cases (show u=Value.ref b from ry);obtain ⟨z,hd,xs,rel,dd⟩:=dt_of I.hok e;have hz:xs.length<=au:=by rw [<- aX rel]; exact z
  have hl:(jI kvs k v).length<=au:=by have:=o5 kvs k v; omega
  refine wpAny_setItem_heap (hsz:=hz) (uY hu) (xJ I.hok eb) dd fun h' dd' hs=>h _ ?_;obtain ⟨q,es,ep,hq,h2,h3,h4,_,h5⟩:=dd';refine Bc I (by rw [e]; exact True.intro) hs ⟨q,hq⟩ ⟨hl,hd,_,(rel.put k eb rv).keeps fun c ys ec=>?_,q,es,ep,hq,h2,h3,h4,h5⟩;rw [aK (mr ec e (fun z=>nomatch z))];exact ec
end
section
variable {X:Cx} {pins:List (aa×Obj)} {σ:St} {H:Hp} {s:ar} {a:aa} {kvs:List (Key×V)} {k:Key} {u:af} {A:bZ} {E:af->ar->Prop}
end
def NoSl (i:cZ):Prop:=∀ ov iv,yt i false ov iv=operate [ov,iv] (tR ov iv)
theorem HD {prog:aL} {w:bN} {A:bZ} {E:af->ar->Prop} {s:ar} {env:Env} {value slice:cZ} {pos:Pos} {T id:String} {Q:af->ar->Prop}
  (hl:KJ (.type T) "__getitem__"=pure (some (.builtin id))) (hs:NoSl slice)
  (h:aW (bJ prog w) A (fy value env) (fun o s₁=>aW (bJ prog w) A (fy slice env) (fun i s₂=>s₂.TypeIs o T/\aW (bJ prog w) A (tR o i) Q E s₂) E s₁) E s) :
  aW (bJ prog w) A (fy (.Subscript value slice pos) env) Q E s:=by
 refine KL (eN h (fun o s₁ h₁=>eN h₁ (fun i s₂ h₂=>?_) fun _ _ x=>x) fun _ _ x=>x);obtain ⟨hT,h₂⟩:=h₂;unfold Cr;refine aq ?_;rw [getitemInPython_of_ne hT.not_modules];refine aq (wpAny_specialOf hT hl ?_);have fin:aW (bJ prog w) A (yt slice false o i) (fun r s₃=>aW (bJ prog w) A (letTemporaryGo value o r >>= fun _=>pure r) Q E s₃) E s₂:=by
  rw [hs o i];exact wpAny_operating (eN h₂ (fun r s₃ h₃=>aq (wpAny_letTemporaryGo (aP h₃))) fun _ _ x=>x)
 first
  | exact aP (aq fin)
  | exact aq (aP (aq fin))
  | exact aq fin
theorem yN {X:Cx} {pins:List (aa×Obj)} {σ:St} {H:Hp} {s:ar} {a:aa} {y:V} {o:Option V} (I:Inv X pins σ H s) (g:rm H a y o):s.TypeIs (.ref a) "dict":=by
 rcases g with ⟨kvs,k,e,_,_⟩ | ⟨kvs,k,b,e,_,_,_⟩
 ·obtain ⟨_,_,vs,_,dd⟩:=Ba I.hok e;exact dd.typeIs
 ·obtain ⟨_,_,xs,_,dd⟩:=Bb I.hok e;exact dd.typeIs
inductive DGI (x y:V) (H:Hp) (Q:VK):Prop where
 | mk (a:aa) (v:V) (hx:x=.ref a) (d:rm H a y (some v)) (q:Q v H):DGI x y H Q
def tDGet (td ty:TE):TE:=fun σ H Q=>td σ H fun x H1=>ty σ H1 fun y H2=>DGI x y H2 Q
def tDIn (ty td:TE):TE:=fun σ H Q=>ty σ H fun y H1=>td σ H1 fun x H2=>∃ a o,x=.ref a/\rm H2 a y o/\Q (.bl o.isSome) H2
def sDPut (td ty tv:TE):TS:=fun D σ H=>tv σ H fun v H1=>td σ H1 fun x H2=>ty σ H2 fun y H3=>∃ a H4,x=.ref a/\uf H3 a y v H4/\D.nx σ H4
section
variable {X:Cx} {o i e value:cZ} {pos pos' tpos:Pos} {td ty tv:TE}
theorem rp (hu:X.A.units + 1 < d8) (ho:PE X o td) (hi:PE X i ty) (hs:NoSl i):PE X (.Subscript o i pos) (tDGet td ty):=by
 intro pins s σ H Q I h;refine HD PySem.F.slot_dict_getitem.lookup hs (thn (ho pins s σ H _ I h) fun u s1 ⟨x,H1,I1,rx,q1⟩=>thn (hi pins s1 σ H1 _ I1 q1) fun iv s2 ⟨y,H2,I2,ry,a,v,ex,g,q2⟩=>?_);subst ex;obtain rfl:u=Value.ref a:=rx;exact ⟨yN I2 g,Cs hu I2 g ry fun w' s3 I3 rw'=>⟨v,H2,I3,rw',q2⟩⟩
theorem EH (hu:X.A.units + 1 < d8) (hi:PE X i ty) (ho:PE X o td):PC X .In i o (tDIn ty td):=by
 intro pins s σ H Q I h;refine thn (hi pins s σ H _ I h) fun iv s1 ⟨y,H1,I1,ry,q1⟩=>thn (ho pins s1 σ H1 _ I1 q1) fun u s2 ⟨x,H2,I2,rx,a,ov,ex,g,q2⟩=>?_;subst ex;obtain rfl:u=Value.ref a:=rx;exact d_in hu I2 g ry fun s3 I3=>⟨.bl ov.isSome,H2,I3,rfl,q2⟩
theorem nI (hu:X.A.units + 1 < d8) (ho:PE X o td) (hi:PE X i ty) (hv:PE X value tv) (hs:tM value (some (.Subscript o i pos')) pos.line X.env=pure false) :
  PS X (.Assign [.Subscript o i pos'] value pos) (sDPut td ty tv):=by
 intro pins s σ H D I h;refine wpAny_Assign_Subscript (thn (hv pins s σ H _ I h) fun r s1 ⟨v,H1,I1,rv,q1⟩=>thn (ho pins s1 σ H1 _ I1 q1) fun u s2 ⟨x,H2,I2,rx,q2⟩=>thn (hi pins s2 σ H2 _ I2 q2) fun iv s3 ⟨y,H3,I3,ry,a,H4,ex,g,q3⟩=>?_) hs;subst ex;obtain rfl:u=Value.ref a:=rx;exact Ct hu I3 g ry rv fun s4 I4=>⟨σ,H4,I4,q3⟩
end
theorem EI {P:aL} {w:bN} {H:Hp} (h:cF) (hb:fj < h.objs.size):eE P w H (h.push {cls:=.type "dict",data:=.dict #[]}) h.objs.size (.dK []):=
 ⟨bH _,beq_eq_false_iff_ne.mpr (fV (aN hb)),[],.nil,zC h⟩
def KP:TE:=fun _ H Q=>∀ p,H p=none->Q (.ref p) (upd H p (.dK []))
section
variable {X:Cx} {pos:Pos}
theorem rq:PE X (.Dict [] [] pos) KP:=fun pins s σ H Q I h =>
 wpAny_Dict_empty ⟨.ref s.heap.objs.size,_,I.laid (a:=s.heap.objs.size) (o:=.dK []) (t':=s.toks) (fun _ _ q=>aJ _ q) (aE _) (EI s.heap I.big),rfl,h _ (I.hok.fresh (aE _))⟩
end
section
variable {X:Cx} {pins:List (aa×Obj)} {σ:St} {H:Hp} {s:ar} {a:aa} {y d:V} {u r:af} {o:Option V} {A:bZ} {E:af->ar->Prop}
end
section
variable {X:Cx} {o e f:cZ} {apos cpos:Pos} {td ty tx:TE}
end
section
variable {X:Cx} {pins:List (aa×Obj)} {σ:St} {H:Hp} {s:ar} {a:aa} {kvs:List (Key×V)} {A:bZ} {E:af->ar->Prop}
end
section
variable {X:Cx} {pins:List (aa×Obj)} {σ:St} {H:Hp} {s:ar} {a:aa} {y:V} {u:af} {A:bZ} {E:af->ar->Prop}
end
section
variable {X:Cx}
end
section
variable {κ:Type} [DecidableEq κ]
theorem HE {kvs:List (κ×V)} {k:κ} {v:V} (h:lI kvs k=some v):k∈kvs.map (·.1):=by
 have q:(kvs.any fun kv=>decide (kv.1=k))=true:=by
  rw [kT,h]
  all_goals rfl
 obtain ⟨p,hp,e⟩:=List.any_eq_true.mp q;exact cB.mpr ⟨p,hp,of_decide_eq_true e⟩
theorem Bd:∀ {l:List κ} {k:κ},l.Nodup->¬ k∈l->(l++[k]).Nodup
 | [],k,_,_=>by simp
 | a :: r,k,h,hk=>by
  obtain ⟨h1,h2⟩:=cO.mp h;show (a :: (r++[k])).Nodup;refine cO.mpr ⟨fun m=>?_,Bd h2 fun m=>hk (ay.mpr (Or.inr m))⟩
  rcases bU.mp m with q | q
  ·exact h1 q
  ·exact hk (ay.mpr (Or.inl (aH.mp q).symm))
end
end L2
set_option maxHeartbeats 4000000
namespace L2
open PySem PySem.Spec PyProof.Rows
theorem eE.has {P:aL} {w:bN} {H:Hp} {h:cF} {a:aa} {o:HO} (x:eE P w H h a o):∃ ob,h.get? a=some ob:=by
 cases o with
 | lst xs=>obtain ⟨_,_,_,_,e⟩:=x; exact ⟨_,e⟩
 | tup xs=>obtain ⟨_,_,_,ob,e,_⟩:=x; exact ⟨_,e⟩
 | dK kvs=>obtain ⟨_,_,_,_,o,_,_,e,_⟩:=x; exact ⟨_,e⟩
 | dT kvs=>obtain ⟨_,_,_,_,o,_,_,e,_⟩:=x; exact ⟨_,e⟩
 | set S n=>obtain ⟨o,_,_,_,e,_⟩:=x; exact ⟨_,e⟩
 | ins C dx fs=>obtain ⟨_,_,_,e,_⟩:=x; exact ⟨_,e⟩
 | own y=>exact x
 | xd fs=>obtain ⟨_,⟨_,_,_,e,_⟩,_⟩:=x; exact ⟨_,e⟩
 | rng lo hi=>obtain ⟨_,_,_,e⟩:=x; exact ⟨_,e⟩
 | frz ob u=>obtain ⟨e,_⟩:=x; exact ⟨_,e⟩
 | tbl ps=>exact ⟨_,(show h.get? a=some _ from x)⟩
 | met f y=>exact ⟨_,(show h.get? a=some _ from x)⟩
 | ext φ=>obtain ⟨_,e,_⟩:=x; exact e
theorem HOk.has {P:aL} {w:bN} {H:Hp} {h:cF} (x:HOk P w H h) {b:aa} (n:H b≠none):∃ ob,h.get? b=some ob:=by
 cases z:H b with
 | none=>exact absurd z n
 | some u=>exact (x b u z).has
def FlD (B:cF) (l:List Env) (e:aa) (cls fl:af) (h:cF):Prop:=
 B.StaysIn h/\B.get? e=none/\h.FunFrames B l/\∃ oe vs T oT ts,h.get? e=some oe/\oe.cls=cls/\oe.dict=none/\oe.data=.fields vs/\vs[1]?=some (.ref T)/\B.get? T=none/\T≠e/\h.get? T=some oT/\oT.data=.fields ts/\ts[3]?=some fl
theorem Cu (o:Obj) (f:Array af->Array af):(o.mapFields f).dict=o.dict:=by
 obtain ⟨c,d,dt,sl⟩:=o
 cases dt <;> rfl
section
variable {M:Hm} {A:bZ} {E:af->ar->Prop} {s:ar} {B:cF} {env:Env} {outer l:List Env} {L e:aa} {cls fl:af} {Q:Unit->ar->Prop}
theorem yO {oe:Obj} {vs:Array af} {head:af} {nx:Bool} (hfr:A.frames=some (env :: outer)) (hl:s.heap.FunFrames B (env :: outer)) (hf:env.frame=some L) (he:s.heap.get? e=some oe) (hB:B.StaysIn s.heap) (hn:B.get? e=none)
  (hd:oe.data=.fields vs) (hz:1 < vs.size) (hdc:oe.dict=none) (k:∀ h',FlD B (env :: outer) e oe.cls (sC L) h'->s.heap.UpToSlots h'->Q () {s with heap:=h'}) :
  aW M A (do let a <- frameOf env; let pl <- entryPlaceOf L nx; let b <- xK head a .none (sC L) .none pl; setField (.ref e) 1 b) Q E s:=by
 have ef:e∉(env :: outer).filterMap (·.frame):=fun hm=>by
  obtain ⟨_,o,ho,q⟩:=hl.mem hm;rw [he] at ho
  cases ho;exact q vs hd
 refine aq (wpAny_frameOf_fun hfr hl hf fun h1 g1=>aq (wpAny_entryPlaceOf fun pl hpl=>?_));unfold xK newFields;refine aq (iY ?_ (hpl.sizeOk5 _ _ _ _ _));have e1:h1.get? e=some oe:=(g1.2.1 e ef).trans he;have b1:B.StaysIn h1:=fun b o z=>(g1.2.1 b fun hm=>by rw [(hl.mem hm).1] at z; cases z).trans (hB b o z);have ne:h1.objs.size≠e:=oP (aM e1);generalize hob:({cls:=.type "traceback",dict:=none,data:=.fields ([head,.ref L,.none,sC L,.none]++(if pl.isEmpty then cH 6 Value.none else pl)).toArray}:Obj)=ob;have e2:(h1.push ob).get? e=some oe:=aJ _ e1;have t2:(h1.push ob).get? h1.objs.size=some ob:=cz h1 (by rw [<- hob]; rfl);refine Aa e2 hd hz (k _ ?_ ?_)
 ·have d3:=sR hd (·.setIfInBounds 1 (Value.ref h1.objs.size));have keep:∀ b o,b≠e->h1.get? b=some o->((h1.push ob).update e (rZ (·.setIfInBounds 1 (Value.ref h1.objs.size)))).get? b=some o:=fun b o q z=>by
   rw [fc _ _ (fV q)];exact aJ _ z
  refine ⟨fun b o z=>keep b o (fun q=>by rw [q,hn] at z; cases z) (b1 b o z),hn,hl.of_keeps fun b o z q=>?_,_,_,h1.objs.size,ob,_,pY _ e2 (Be d3),Obj.cls_mapFields _ _,(Cu _ _).trans hdc,d3,by simp [hz],b1.fresh,ne,?_,by rw [<- hob],?_⟩
  ·obtain ⟨sl,w⟩:=g1.2.2 b o z;exact ⟨_,keep b _ (fun y=>by rw [y,he] at z; cases z; exact q vs hd) w,rfl⟩
  ·rw [fc _ _ (fV ne)];exact t2
  ·first | (simp; done) | (rcases hpl with rfl | ⟨_,_,_,_,_,_,_,rfl⟩ <;> simp)
 ·intro b o z q;obtain ⟨sl,w⟩:=g1.2.2 b o z;refine ⟨sl,?_⟩;rw [fc _ _ (fun y=>by rw [<- y,he] at z; cases z; exact q vs hd)];exact aJ _ w
theorem uv {T:aa} {oT:Obj} {ts:Array af} {h:cF} (hT:h.get? T=some oT) (hdT:oT.data=.fields ts) {b:aa} {o:Obj} (hb:h.get? b=some o) (q:∀ vs,o.data≠.fields vs):b≠T:=fun y=>by
 rw [y,hT] at hb
 cases hb;exact q ts hdT
theorem Bf (hfr:A.frames=some (env :: outer)) (hf:env.frame=some L) (x:FlD B (env :: outer) e cls .none s.heap) (k:∀ h',FlD B (env :: outer) e cls (sC L) h'->s.heap.UpToSlots h'->Q () {s with heap:=h'}) :
  aW M A (Dy (.ref e) env) Q E s:=by
 obtain ⟨hB,hn,hl,oe,vs,T,oT,ts,he,rfl,hdc,hd,h1,nT,Te,hT,dT,h3⟩:=x;unfold Dy;simp only [hf];refine aq (lG he hd h1 ?_);rw [if_pos (show (Value.ref T != Value.none)=true from by simp)];refine aq (lG hT dT h3 ?_);rw [if_neg (show ¬ ((Value.none == sC L)=true) from by simp [sC])];refine aq (Aa hT dT (lJ.mp h3).1 ?_);have ot:∀ b,b≠T->(s.heap.update T (rZ (·.setIfInBounds 3 Value.none))).get? b=s.heap.get? b:=fun b hb=>fc _ _ (fV hb);refine yO (s:={s with heap:=s.heap.update T (rZ (·.setIfInBounds 3 Value.none))}) hfr (hl.of_keeps fun b o z q=>⟨o,(ot b (uv hT dT z q)).trans z,rfl⟩) hf ((ot e (fV Te)).trans he)
  (fun b o z=>(ot b fun y=>by rw [y,nT] at z; cases z).trans (hB b o z)) hn hd (lJ.mp h1).1 hdc fun h' y1 y2=>k h' y1 fun b o z q=>y2 b o ((ot b (uv hT dT z q)).trans z) q
theorem rA (x:FlD B l e cls fl s.heap) (k:∀ h',FlD B l e cls .none h'->s.heap.UpToSlots h'->Q () {s with heap:=h'}):aW M A (setFlight (.ref e) none) Q E s:=by
 obtain ⟨hB,hn,hl,oe,vs,T,oT,ts,he,hc,hdc,hd,h1,nT,Te,hT,dT,h3⟩:=x;have z3:3 < ts.size:=(lJ.mp h3).1;have ot:∀ b,b≠T->(s.heap.update T (rZ (·.setIfInBounds 3 ((none:Option aa).elim Value.none fun f=>sC f)))).get? b=s.heap.get? b:=fun b hb=>fc _ _ (fV hb);unfold setFlight;refine aq (lG he hd h1 ?_);rw [if_pos (show (Value.ref T != Value.none)=true from by simp)];refine Aa hT dT z3 (k _ ⟨fun b o z=>(ot b fun y=>by rw [y,nT] at z; cases z).trans (hB b o z),hn,hl.of_keeps fun b o z q=>⟨o,(ot b (uv hT dT z q)).trans z,rfl⟩,oe,vs,T,_,_,(ot e (fV Te)).trans he,hc,hdc,hd,h1,nT,Te,pY _ hT (Be (sR dT _)),sR dT _,by simp [z3]⟩
  fun b o z q=>⟨o.slots,(ot b (uv hT dT z q)).trans z⟩)
theorem FlD.tail (x:FlD B (env :: outer) e cls fl s.heap):FlD B outer e cls fl s.heap:=by
 obtain ⟨a,b,⟨_,_,c⟩,d⟩:=x;exact ⟨a,b,c,d⟩
theorem FlD.there {h:cF} (x:FlD B l e cls fl h):∃ ob,h.get? e=some ob/\ob.cls=cls:=by
 obtain ⟨_,_,_,oe,_,_,_,_,he,hc,_⟩:=x;exact ⟨oe,he,hc⟩
theorem Cv (hfr:A.frames=some (env :: outer)) (hf:env.frame=some L) (x:FlD B (env :: outer) e cls .none s.heap) (k:∀ h',FlD B outer e cls .none h'->s.heap.UpToSlots h'->Q () {s with heap:=h'}):aW M A (zz env (.ref e)) Q E s:=by
 unfold zz;refine aq (Bf hfr hf x fun h1 x1 u1=>rA (s:={s with heap:=h1}) x1 fun h2 x2 u2=>k h2 (FlD.tail (s:={s with heap:=h2}) x2) (u1.trans u2))
theorem HF {h:cF} {args:List af} (hfr:A.frames=some (env :: outer)) (hf:env.frame=some L) (hB:B.StaysIn h) (hl:h.FunFrames B (env :: outer)) (x:Jw h s.heap e cls args)
  (k:∀ h',FlD B outer e cls .none h'->s.heap.UpToSlots h'->Q () {s with heap:=h'}):aW M A (zz env (.ref e)) Q E s:=by
 obtain ⟨t,he,htn,ht⟩:=x.there;have en:B.get? e=none:=by
  cases q:B.get? e with
  | none=>rfl
  | some o=>have z:=hB e o q; rw [x.new] at z; cases z
 unfold zz Dy;simp only [hf];refine aq (aq (lG (x:=Value.none) he rfl rfl ?_));rw [if_neg (show ¬ ((Value.none != Value.none)=true) by decide)];exact yO hfr (hl.of_keeps fun b o z _=>⟨o,x.keeps b o z,rfl⟩) hf he (fun b o z=>x.keeps b o (hB b o z)) en rfl (show 1 < 6 by decide) rfl fun h1 x1 u1=>rA (s:={s with heap:=h1}) x1 fun h2 x2 u2=>k h2 (FlD.tail (s:={s with heap:=h2}) x2) (u1.trans u2)
end
def Fly (B:cF) (stk:List Env) (ea C:aa) (h:cF):Prop:=FlD B stk ea (.ref C) .none h
def CXo (P:aL) (w:bN):CXT:=fun outer H s E e s' =>
 ∃ (ea C:aa) (H':Hp) (B:cF),e=.ref ea/\E (.ref C) none H'/\s'.os=s.os/\oG s'.gens/\Un (frs outer) [] H H' s.heap s'.heap/\HOk P w H' s'.heap/\Fly B outer ea C s'.heap /\
  ∀ b o,(H' b≠none\/∃ o',s.heap.get? b=some o')->b∉frs outer->s'.heap.get? b=some o->B.get? b=some o
theorem Un.left {fs stk:List aa} {H₀ H:Hp} {h₀ h h' B:cF} (u:Un fs [] H₀ H h₀ h) (hB:B.StaysIn h') (cov:∀ b o,(H b≠none\/∃ o',h₀.get? b=some o')->b∉stk->h.get? b=some o->B.get? b=some o)
  (hst:∀ b o,h₀.get? b=some o->b∈stk->b∈fs) (sl:∀ b∈fs,∀ o,h.get? b=some o->∃ sl,h'.get? b=some {o with slots:=sl}):Un fs [] H₀ H h₀ h' where
 keep:=fun b o e n hb hx=>hB b o (cov b o (.inr ⟨o,e⟩) (fun z=>hb (hst b o e z)) (u.keep b o e n hb hx))
 slot:=fun b o e n hb hx=>by
  obtain ⟨s1,e1⟩:=u.slot b o e n hb hx;obtain ⟨s2,e2⟩:=sl b hb _ e1;exact ⟨s2,e2⟩
 free:=u.free
 there:=fun b o e hx=>by
  obtain ⟨o',e'⟩:=u.there b o e hx
  by_cases hb:b∈stk
  ·obtain ⟨s2,e2⟩:=sl b (hst b o e hb) _ e';exact ⟨_,e2⟩
  ·exact ⟨o',hB b o' (cov b o' (.inr ⟨o,e⟩) hb e')⟩
 tups:=u.tups
 frzs:=u.frzs
 tbls:=u.tbls
theorem HOk.left {P:aL} {w:bN} {H:Hp} {h h' B:cF} (ok:HOk P w H h) (hB:B.StaysIn h') (cov:∀ b o,H b≠none->h.get? b=some o->B.get? b=some o):HOk P w H h':=fun a o e =>
 (ok a o e).stay (fun b u hb q=>hB b u (cov b u (by
  rcases hb with z | z
  ·rw [z,e]; simp
  ·rw [z]; simp) q)) (fun _ q=>q) (fun _ _ q=>q)
section
variable {X:Cx} {pins:List (aa×Obj)} {σ:St} {H:Hp} {s:ar} {E E':XK}
theorem Inv.oldfs (I:Inv X pins σ H s):∀ b o,X.s₀.heap.get? b=some o->b∈frs X.stack->b∈X.fs:=fun b o e hb=>by
 rcases ay.mp (I.stkSub b hb) with z | z
 ·exact absurd (bK (aM e) I.ok.above) (by rw [z]; exact hU _)
 ·exact z
theorem Inv.ntr (I:Inv X pins σ H s):∀ b,H b≠none->b∉frs X.stack:=fun b hn z=>hn (I.stkFree b z)
theorem Inv.slotsOf (I:Inv X pins σ H s) {h':cF} (sm:s.heap.UpToSlots h'):∀ b∈X.fs,∀ o,s.heap.get? b=some o->∃ sl,h'.get? b=some {o with slots:=sl}:=fun b hb o e=>by
 obtain ⟨_,o',ho',hd⟩:=I.funs.mem hb;rw [e] at ho'
 cases ho';exact sm b o e hd
structure tS (X:Cx) (E:XK):Prop where
 stk:X.stack=X.env :: X.outer
 fr:X.env.frame=some X.env.locals
 ex:X.ex=[]
 xe:X.xe=fun e s'=>aW (bJ X.prog X.w) X.A (zz X.env e) (fun _ s''=>CXo X.prog X.w X.outer X.H₀ X.s₀ E e s'') (fun e' s''=>CXo X.prog X.w X.outer X.H₀ X.s₀ E e' s'') s'
theorem d6 {P:aL} {w:bN} {K:ae} {mg:Str->Option af} {base:cF} {N:List Str} {qual:Str} {scope:lE} {f:aa} {cd:af} {A:bZ} {outer:List Env} :
  tS (sN (CXo P w) P w K mg base N qual scope f cd A outer s H E) E:=⟨rfl,rfl,rfl,rfl⟩
theorem tS.raises (hb:tS X E) (I:Inv X pins σ H s) {h':cF} {e C:aa} {vs:List af} (hx:Jw s.heap h' e (.ref C) vs) (q:E (.ref C) none H):X.xe (.ref e) {s with heap:=h'}:=by
 rw [hb.xe];have hfr:X.A.frames=some (X.env :: X.outer):=by rw [I.ok.frames,hb.stk]
 have hin:∀ env∈X.stack,∀ a,env.frame=some a->a∈frs X.stack:=fun env he a ha=>rX.mpr ⟨env,he,ha⟩;have fl:s.heap.FunFrames (om s.heap (frs X.stack)) (X.env :: X.outer):=by
  have z:=PySem.W.funFrames_hide I.stack hin;rw [hb.stk] at z |-;exact z
 have ub:Un X.fs [] X.H₀ H X.s₀.heap s.heap:=by
  have z:=I.base;rw [hb.ex] at z;exact z
 have keepB:∀ b o,b∉frs X.stack->s.heap.get? b=some o->(om s.heap (frs X.stack)).get? b=some o:=fun b o n e=>zw _ e n;refine HF (B:=om s.heap (frs X.stack)) (h:=s.heap) hfr hb.fr (fun b o z=>zG _ z) fl hx fun h'' x1 x4=>?_;have sm:s.heap.UpToSlots h'':=(MP hx.keeps).trans x4;refine ⟨e,C,H,_,rfl,q,I.os,I.bare,ub.left (stk:=frs X.stack) x1.1 (fun b o _ n e=>keepB b o n e) I.oldfs (I.slotsOf sm),I.hok.left x1.1 (fun b o n e=>keepB b o (I.ntr b n) e),x1,?_⟩;intro b o c n e1;have nb:b∉frs X.stack:=by
  rcases c with c | ⟨o',c⟩
  ·exact I.ntr b c
  ·exact fun z=>n (I.oldfs b o' c z)
 obtain ⟨o1,e2⟩:∃ o1,s.heap.get? b=some o1:=by
  rcases c with c | ⟨o',c⟩
  ·exact I.hok.has c
  ·exact ub.there b o' c (by simp)
 have e3:h''.get? b=some o1:=x1.1 b o1 (keepB b o1 nb e2);have e4:h''.get? b=some o:=e1;rw [e3] at e4
 cases e4;exact keepB b _ nb e2
theorem tS.passes (hb:tS X E) (hE:∀ c d H,E' c d H->E c d H):lY (CXo X.prog X.w) X E':=fun pins σ H s e s' I h=>by
 obtain ⟨ea,C,H',B,rfl,q,os,bare,un,hok,fl,cov⟩:=h;have J:Inv X pins σ H' s':=I.call' (ch:=[]) os un hok bare (fun b z=>absurd z (by simp));rw [hb.xe];have hfr:X.A.frames=some (X.env :: X.outer):=by rw [I.ok.frames,hb.stk]
 have ub:Un X.fs [] X.H₀ H' X.s₀.heap s'.heap:=by
  have z:=J.base;rw [hb.ex] at z;exact z
 have ui:Un X.fs [] X.H₀ H X.s₀.heap s.heap:=by
  have z:=I.base;rw [hb.ex] at z;exact z
 have cov1:∀ b o,(H' b≠none\/∃ o',X.s₀.heap.get? b=some o')->b∉frs X.stack->s'.heap.get? b=some o->B.get? b=some o:=fun b o c n e =>
  cov b o (c.imp_right fun ⟨o',z⟩=>ui.there b o' z (by simp)) n e
 have fl':FlD B (X.env :: X.outer) ea (.ref C) .none s'.heap:=by
  rw [<- hb.stk];exact fl
 refine Cv hfr hb.fr fl' fun h'' x1 x2=>?_;refine ⟨ea,C,H',B,rfl,hE _ _ _ q,J.os,J.bare,ub.left (stk:=frs X.stack) x1.1 cov1 J.oldfs (J.slotsOf x2),J.hok.left x1.1 (fun b o n e=>cov1 b o (.inl n) (J.ntr b n) e),x1,?_⟩;intro b o c n e1;have nb:b∉frs X.stack:=by
  rcases c with c | ⟨o',c⟩
  ·exact J.ntr b c
  ·exact fun z=>n (J.oldfs b o' c z)
 obtain ⟨o1,e2⟩:∃ o1,s'.heap.get? b=some o1:=by
  rcases c with c | ⟨o',c⟩
  ·exact J.hok.has c
  ·exact ub.there b o' c (by simp)
 have e3:h''.get? b=some o1:=x1.1 b o1 (cov1 b o1 c nb e2);have e4:h''.get? b=some o:=e1;rw [e3] at e4
 cases e4;exact cov1 b _ c nb e2
end
section
variable {X:Cx} {E:XK} {x:Str} {C:aa} {np cpos pos:Pos} {e₀:cZ} {rest:List cZ} {ta:TA} {K:ae} {h:cF}
theorem HG {bmB:List af} {newId:String} (X:K.In h) (q:dO K C bmB newId=true) :
  ∃ bm N nm q bs hdct sn sub ab col dd k0 k1 k2 k3 k5 mN,h.get? C=some (excClassObj nm q C N bs bm hdct sn sub ab col dd k0 k1 k2 k3 k5 newId)/\h.Ns N mN/\mN "__init__"=none/\OwnTail h bmB bm:=by
 unfold dO at q
 split at q
 ·rename_i dd cd sl ho
  split at q
  ·rename_i C' bm k0 k1 k2 k3 n k5 hm hs
   simp only [oq,beq_iff_eq,Bool.not_eq_true'] at q;obtain ⟨⟨⟨⟨⟨rfl,rfl⟩,hdel⟩,ht⟩,hok⟩,hni⟩:=q;obtain ⟨nm,bs,mro,ns,qn,hd,sn,sub,ab,col,del⟩:=cd;dsimp only at hm hdel hok hni;subst hm hdel;have e:sl=#[k0,k1,k2,k3,some (.builtin n),k5]:=by
    obtain ⟨l⟩:=sl;have hs':l=[k0,k1,k2,k3,some (.builtin n),k5]:=hs;rw [hs']
   subst e;exact ⟨bm,ns,nm,qn,bs,hd,sn,sub,ab,col,dd,k0,k1,k2,k3,k5,_,X _ _ ho,.of_isNs (PySem.W.isNs_of_in X hok),PySem.W.nsMap_none_of_in X hok hni,PySem.W.tail_of_in X ht⟩
  ·cases q
 ·cases q
def qJ:List af:=[.type "ValueError",.type "Exception",.type "BaseException",.type "object"]
def KQ (C:aa) (E:XK) (ta:TA):TS:=fun _ σ H=>ta σ H fun vs H1=>vs.length<=au/\E (.ref C) none H1
theorem kU (hb:tS X E) (hc:X.calm=true) (hg:Gl X x) (hm:X.mg x=some (.ref C)) (hx:dO X.K C qJ "ValueError.__new__"=true) (ha:PA X (e₀ :: rest) ta)
  (hd:(x == ("__debug__":Str))=false:=by decide) (he:cM (e₀ :: rest) X.env=(false,fy e₀ X.env) :: cM rest X.env:=by rfl) (hpl:(jd cpos (cM rest X.env)).any (·.1)=false:=by rfl) :
  PS X (.Raise (some (.Call (.Name x np) (e₀ :: rest) [] cpos)) none pos) (KQ C E ta):=by
 intro pins s σ H D I h;obtain ⟨bm,N,nm,q,bs,hdct,sn,sub,ab,col,dd,k0,k1,k2,k3,k5,mN,hC,hN,hni,T⟩:=HG I.ok.mod.kin hx;have base:qJ.contains (.type "BaseException")=true:=F.excBase_ValueError.hasBase;refine wpAny_Raise_call_subT (C:=C) (nm:=nm) (q:=q) (N:=N) (bs:=bs) (bm:=bm) (hdct:=hdct) (sn:=sn) (sub:=sub) (ab:=ab) (col:=col) (dd:=dd) (k0:=k0) (k1:=k1) (k2:=k2) (k3:=k3) (k5:=k5)
  F.excBase_ValueError (mN:=mN) (T.hasType base) (I.ok.hd hc) (by rw [he]; show (false || (jd cpos (cM rest X.env)).any (·.1))=false; rw [hpl]; rfl) hni (qY I hg hm ⟨rfl,?_⟩ hd)
 have h1:=ha cpos pins s σ H _ I h;rw [he] at h1 |-;refine z5 (eN h1 (fun us s2 z=>?_) fun _ _ y=>y);obtain ⟨vs,H1,I1,r,hl,q1⟩:=z;exact ⟨rfl,by rw [<- r.length]; exact hl,I1.bk _ _ hC,hN.keeps I1.bk,T.keeps I1.bk,fun h' e hm=>hb.raises I1 hm q1⟩
end
section
variable {X:Cx} {pins:List (aa×Obj)} {σ:St} {H:Hp} {s:ar} {T:aa->St->Hp->Prop}
def xM (X:Cx) (pins:List (aa×Obj)) (H:Hp) (B h:cF):Prop:=
 ∀ b o,(H b≠none\/(b∉X.ex/\∃ o',X.s₀.heap.get? b=some o')\/∃ p∈X.pn++pins,p.1=b)->b∉frs X.stack->h.get? b=some o->B.get? b=some o
def tryW (X:Cx) (pins:List (aa×Obj)) (T:aa->St->Hp->Prop):af->ar->Prop:=fun e s' =>
 ∃ ea C B σ H,e=.ref ea/\Inv X pins σ H s'/\Fly B X.stack ea C s'.heap/\xM X pins H B s'.heap/\T C σ H
abbrev Cx.tr (X:Cx) (pins:List (aa×Obj)) (T:aa->St->Hp->Prop):Cx:={X with xe:=tryW X pins T,pn:=X.pn++pins}
theorem Inv.tr (I:Inv X pins σ H s) (T:aa->St->Hp->Prop):Inv (X.tr pins T) [] σ H s:=
 ⟨⟨I.ok.mod,I.ok.kind,I.ok.glob,I.ok.blt,I.ok.above,I.ok.inj,I.ok.has,I.ok.cab,I.ok.hd,I.ok.frames,I.ok.stk,I.ok.exf,I.ok.bs,I.ok.bsz,I.ok.noex,I.ok.exfs,I.ok.funs,I.ok.frf⟩,I.os,I.bare,I.base,I.loc,I.cell,I.free,I.freeC,
  fun p hp=>I.pin p (by simpa using hp),I.hok,I.len⟩
theorem Inv.untr {pins':List (aa×Obj)} (I:Inv (X.tr pins T) pins' σ H s):Inv X pins σ H s:=
 ⟨⟨I.ok.mod,I.ok.kind,I.ok.glob,I.ok.blt,I.ok.above,I.ok.inj,I.ok.has,I.ok.cab,I.ok.hd,I.ok.frames,I.ok.stk,I.ok.exf,I.ok.bs,I.ok.bsz,I.ok.noex,I.ok.exfs,I.ok.funs,I.ok.frf⟩,I.os,I.bare,I.base,I.loc,I.cell,I.free,I.freeC,
  fun p hp=>I.pin p (gX _ hp),I.hok,I.len⟩
theorem Bg {h h':cF} {c:aa} {v:Option af} (x:h.IsCell c v) (sm:h.UpToSlots h'):h'.IsCell c v:=by
 obtain ⟨o,ho,hd⟩:=x;obtain ⟨sl,e⟩:=sm c o ho (fun vs q=>by rw [hd] at q; cases q);exact ⟨_,e,hd⟩
theorem Inv.landed {B h':cF} (I:Inv X pins σ H s) (hB:B.StaysIn h') (cov:xM X pins H B s.heap) (sm:s.heap.UpToSlots h'):Inv X pins σ H {s with heap:=h'}:=by
 refine ⟨I.ok,I.os,I.bare,⟨fun b o e n hb hx=>?_,fun b o e n hb hx=>?_,I.base.free,fun b o e hx=>?_,I.base.tups,I.base.frzs,I.base.tbls⟩,?_,fun x c e=>?_,I.free,I.freeC,fun p hp=>?_,I.hok.left hB (fun b o n e=>cov b o (.inl n) (I.ntr b n) e),I.len⟩
 ·exact hB b o (cov b o (.inr (.inl ⟨hx,o,e⟩)) (fun z=>hb (I.oldfs b o e z)) (I.base.keep b o e n hb hx))
 ·obtain ⟨s1,e1⟩:=I.base.slot b o e n hb hx;obtain ⟨s2,e2⟩:=I.slotsOf sm b hb _ e1;exact ⟨s2,e2⟩
 ·obtain ⟨o',e'⟩:=I.base.there b o e hx
  by_cases hb:b∈frs X.stack
  ·obtain ⟨s2,e2⟩:=I.slotsOf sm b (I.oldfs b o e hb) _ e';exact ⟨_,e2⟩
  ·exact ⟨o',hB b o' (cov b o' (.inr (.inl ⟨hx,o,e⟩)) hb e')⟩
 ·obtain ⟨m,hn,hl⟩:=I.loc;refine ⟨m,sm.ns hn,fun i x v e1 e2 e3=>?_⟩;obtain ⟨u,r,l⟩:=hl i x v e1 e2 e3;refine ⟨u,r,?_⟩
  rcases l with l | ⟨k,c,e,l⟩
  ·exact .inl l
  ·exact .inr ⟨k,c,e,Bg l sm⟩
 ·obtain ⟨v,q⟩:=I.cell x c e;exact ⟨v,Bg q sm⟩
 ·obtain ⟨e,n,l,f,d⟩:=I.pin p hp;exact ⟨hB _ _ (cov p.1 p.2 (.inr (.inr ⟨p,hp,rfl⟩)) (fun z=>(ay.mp (I.stkSub _ z)).elim l f) e),n,l,f,d⟩
theorem xM.land {B h':cF} (I:Inv X pins σ H s) (hB:B.StaysIn h') (cov:xM X pins H B s.heap):xM X pins H B h':=fun b o c n e=>by
 obtain ⟨o1,e1⟩:∃ o1,s.heap.get? b=some o1:=by
  rcases c with c | ⟨hx,o',c⟩ | ⟨p,hp,rfl⟩
  ·exact I.hok.has c
  ·exact I.base.there b o' c hx
  ·exact ⟨_,(I.pin p hp).1⟩
 have e2:=hB b o1 (cov b o1 c n e1);rw [e] at e2
 cases e2;exact cov b _ c n e1
abbrev Cx.hdl (X:Cx) (ea:aa):Cx:={X with A:=X.A.mark (some (.ref ea)),calm:=false,xe:=fun _ _=>False}
theorem Inv.hdl (I:Inv X pins σ H s) (ea:aa):Inv (X.hdl ea) pins σ H s:=
 ⟨⟨I.ok.mod,I.ok.kind,I.ok.glob,I.ok.blt,I.ok.above,I.ok.inj,I.ok.has,I.ok.cab,fun z=>uw z,I.ok.frames,I.ok.stk,I.ok.exf,I.ok.bs,I.ok.bsz,I.ok.noex,I.ok.exfs,I.ok.funs,I.ok.frf⟩,I.os,I.bare,I.base,I.loc,I.cell,I.free,I.freeC,
  I.pin,I.hok,I.len⟩
theorem Inv.unhdl {ea:aa} (ok:X.Ok) (I:Inv (X.hdl ea) pins σ H s):Inv X pins σ H s:=⟨ok,I.os,I.bare,I.base,I.loc,I.cell,I.free,I.freeC,I.pin,I.hok,I.len⟩
abbrev TH:=aa->TS
def PHs (X:Cx) (hs:List ux) (th:TH):Prop:=
 ∀ (pins:List (aa×Obj)) (s:ar) (σ:St) (H:Hp) (D:kL) (ea C:aa) (B:cF),Inv X pins σ H s->Fly B X.stack ea C s.heap->xM X pins H B s.heap->th C D σ H ->
  aW (bJ X.prog X.w) X.A (handleBy (.ref ea) X.env hs) (SP X pins D) X.xe s
def thNil:TH:=fun _ _ _ _=>False
theorem HH:PHs X [] thNil:=fun _ _ _ _ _ _ _ _ _ _ _ h=>h.elim
def Bh (CX:CXT) (X:Cx) (E:St->XK):Prop:=∀ (pins:List (aa×Obj)) (σ:St) (H:Hp) (s:ar) (e:af) (s':ar),Inv X pins σ H s->CX X.stack H s (E σ) e s'->X.xe e s'
def tryE (T:aa->St->Hp->Prop):St->XK:=fun σ c _ H=>∃ C,c=.ref C/\T C σ H
theorem Ab:Bh (CXo X.prog X.w) (X.tr pins T) (tryE T):=fun pins' σ H s e s' I h=>by
 obtain ⟨ea,C,H',B,rfl,⟨C',hC,q⟩,os,bare,un,hok,fl,cov⟩:=h
 cases hC;have J:Inv (X.tr pins T) pins' σ H' s':=I.call' (ch:=[]) os un hok bare (fun b z=>absurd z (by simp));refine ⟨ea,C,B,σ,H',rfl,J.untr,fl,fun b o c n e=>cov b o ?_ n e,q⟩
 rcases c with c | ⟨c1,o',c2⟩ | ⟨p,hp,rfl⟩
 ·exact .inl c
 ·exact .inr (I.base.there b o' c2 c1)
 ·exact .inr ⟨_,(I.pin p (gX _ hp)).1⟩
def KS (sp:Sp) (E:St->XK) (t:TA):TE:=fun σ H Q=>t σ H fun vs H1=>sp vs H1 Q (E σ)
variable {CX:CXT} {k:Nat} {f:aa} {fd:cw} {ps:List Str} {sp:Sp} {E:St->XK} {x:Str} {p pos:Pos} {e:cZ} {es:List cZ} {t:TA}
theorem EJ (F:cm X.prog X.w X.K X.mg X.base CX k f fd ps sp) (hr:d5 k X.A) (hg:Gl X x) (hm:X.mg x=some (.ref f)) (hk:gB X.K (.ref f)=true) (hb:Binds X.K fd ps []) (hx:Bh CX X E) (ha:PA X (e :: es) t)
  (hdb:(x == ("__debug__":Str))=false:=by decide) (he:cM (e :: es) X.env=(false,fy e X.env) :: cM es X.env:=by rfl) (hpl:(jd pos (cM es X.env)).any (·.1)=false:=by rfl) :
  PE X (.Call (.Name x p) (e :: es) [] pos) (KS sp E t):=by
 intro pins s σ H Q I h;refine iD (qY I hg hm ?_ hdb);refine kO (h₀:=X.base) I.ok.mod.kin hk (thn (ha pos pins s σ H _ I h) fun us s1 z=>?_) he hpl;obtain ⟨vs,H1,I1,r,q⟩:=z;refine ⟨I1.kIn,?_⟩;have hl:(us++[]).length=ps.length:=by
  rw [dE,<- r.length];exact F.len _ _ _ _ q
 have hb1:=hb s1 us I1.kIn hl;rw [dE] at hb1;refine zU (mE (F.run X.A X.stack s1 H1 ⟨us,[]⟩ us vs Q (E σ) hr I1.env0 hb1 r q) fun r s' hq=>?_)
 cases r with
 | error e=>exact hx pins σ H1 s1 e s' I1 hq
 | ok fl =>
  cases fl with
  | ret u=>exact I1.after hq
  | next=>exact dN hq
  | brk=>exact dN hq
  | cont=>exact dN hq
end
theorem Fun.okX {P:aL} {w:bN} {K:ae} {mg:Str->Option af} {base:cF} {x qual:Str} {st:dJ} {f:aa} {fd:cw} {N ps:List Str} {k:Nat} {sp:Sp} (F:Fun K x qual st f fd) (S:cv N ps (aQ st)) (len:∀ vs H Q E,sp vs H Q E->vs.length=ps.length)
  (hbody:∀ (cdv:af) (A:bZ) (outer:List Env) (s:ar) (H:Hp) (vs:List V) (Q:VK) (E:XK),d5 k (A.deeper (sO qual (aQ st) s.heap.objs.size f cdv))->sp vs H Q E ->
   ∃ t,PSs (sN (CXo P w) P w K mg base N qual (aQ st) f cdv A outer s H E) (i5 st) t/\t {nx:=fun _ H'=>Q .non H',rt:=Q} (start N vs) H):cm P w K mg base (CXo P w) (k + 1) f fd ps sp:=by
 obtain ⟨oc,od,kV,doc,pm,an,cdv,ct,osl,rfl,lk,hcd⟩:=F.ex;exact Ju lk hcd S len fun A outer s H vs Q E hr hsp=>hbody cdv A outer s H vs Q E hr hsp
theorem xO {prog:aL} {w:bN} {A:bZ} {R:KG->ar->Prop} {s:ar} {elt target iter:cZ} {ifs:List cZ} {scope:lE} {pos:Pos} {it acc:af} {env:Env} (J:Nat->ar->Prop)
  (turn:∀ n s,J n s->aW (bJ prog w) A (pyNext it) (fun r s1=>match r with
   | none=>R (.ok .next) s1
   | some v=>aW (bJ prog w) A (qT target it v) (fun _ s2=>aW (bJ prog w) A (xo target env v) (fun _ s3 =>
     aW (bJ prog w) A (forIn ifs true fun c r=>if r=true then do let ok <- DQ c env (fy c env); pure (ForInStep.yield ok) else pure (ForInStep.yield r)) (fun ok s4 =>
      if ok=true then aW (bJ prog w) A (fy elt env) (fun x s5=>aW (bJ prog w) A (xr (.builtin "list.append") [acc,x]) (fun _ s6=>∃ m,m < n/\J m s6) (fun _ _=>False) s5) (fun _ _=>False) s4
      else ∃ m,m < n/\J m s4) (fun _ _=>False) s3) (fun _ _=>False) s2) (fun _ _=>False) s1) (fun _ _=>False) s)
  (n:Nat) (h:J n s):oK (bJ prog w) A (.compLoop (.ListComp elt [⟨target,iter,ifs,0⟩] scope pos) 0 it acc env) R s:=by
 refine codeAny_loop rfl J (fun n s hI=>?_) n h;show aW _ A ((compTurn (.ListComp elt [⟨target,iter,ifs,0⟩] scope pos) 0 it acc env).onRaise
  (fun x=>do Dy x env; theTreesLotGoes x)) _ _ s
 refine wpAny_noted ?_;rw [compTurn_list];refine aq (uq (aq (eN (turn n s hI) (fun r s1 h1=>?_) fun _ _ z=>z.elim)))
 cases r with
 | none=>exact aP h1
 | some v =>
  refine aq (eN h1 (fun _ s2 h2=>?_) fun _ _ z=>z.elim);refine aq (eN h2 (fun _ s3 h3=>?_) fun _ _ z=>z.elim);refine aq (eN h3 (fun ok s4 h4=>?_) fun _ _ z=>z.elim)
  cases ok with
  | false=>exact aP ⟨rfl,h4⟩
  | true =>
   refine aq (aq (eN h4 (fun x s5 h5=>?_) fun _ _ z=>z.elim));exact aq (eN h5 (fun _ s6 h6=>aP (aP ⟨rfl,h6⟩)) fun _ _ z=>z.elim)
theorem yP {env:Env}:∀ {names:List (Str×kg)} {x:Str},
  (names.map fun (n,k)=>if (k == NameKind.free && env.scope.kind == .function && env.kindOf n == some .cell) then (n,NameKind.cell) else (n,k)).lookup x=some .local->names.lookup x=some .local
 | [],_,h=>by simp at h
 |(n,k) :: r,x,h=>by
  have ih:=@yP env r x;rw [cu] at h;dsimp only at h
  by_cases hc:(k == NameKind.free && env.scope.kind == .function && env.kindOf n == some .cell)=true
  ·rw [if_pos hc] at h
   cases hx:x == n with
   | true=>simp [cD,hx] at h
   | false =>
    simp only [cD,hx] at h |-;exact ih h
  ·rw [if_neg hc] at h
   cases hx:x == n with
   | true =>
    simp only [cD,hx] at h |-;exact h
   | false =>
    simp only [cD,hx] at h |-;exact ih h
theorem xP {env:Env}:∀ {names:List (Str×kg)} {x:Str},
  ((names.map fun (n,k)=>if (k == NameKind.free && env.scope.kind == .function && env.kindOf n == some .cell) then (n,NameKind.cell) else (n,k)).lookup x=some .cell \/
   (names.map fun (n,k)=>if (k == NameKind.free && env.scope.kind == .function && env.kindOf n == some .cell) then (n,NameKind.cell) else (n,k)).lookup x=some .free)->names.lookup x=some .cell\/names.lookup x=some .free
 | [],_,h=>by simp at h
 |(n,k) :: r,x,h=>by
  have ih:=@xP env r x;rw [cu] at h;dsimp only at h
  by_cases hc:(k == NameKind.free && env.scope.kind == .function && env.kindOf n == some .cell)=true
  ·rw [if_pos hc] at h;have hk:k=.free:=by
    have z:=(qy.mp (qy.mp hc).1).1;exact eq_of_beq z
   cases hx:x == n with
   | true =>
    simp only [cD,hx];rw [hk];exact .inr rfl
   | false =>
    simp only [cD,hx] at h |-;exact ih h
  ·rw [if_neg hc] at h
   cases hx:x == n with
   | true =>
    simp only [cD,hx] at h |-;exact h
   | false =>
    simp only [cD,hx] at h |-;exact ih h
def o7 (env:Env):List (Str×kg)->List (Str×aa)->List (Str×aa)
 | [],cs=>cs
 |(n,k) :: r,cs=>o7 env r (if k=.free then (match env.cells.lookup n with | some c=>(n,c) :: cs | none=>cs) else cs)
theorem yQ {env:Env}:∀ (names:List (Str×kg)) (cs:List (Str×aa)),(∀ y∈names,y.2=.free->∃ c,env.cells.lookup y.1=some c) ->
  (forIn names cs fun x r=>(do
   if (x.2 == NameKind.free)=true then do
    let c <- cellOf env x.1
    pure (ForInStep.yield ((x.1,c) :: r))
   else pure (ForInStep.yield r):Sem (ForInStep (List (Str×aa)))))=(pure (o7 env names cs):Sem (List (Str×aa)))
 | [],cs,_=>rfl
 |(n,k) :: r,cs,h=>by
  have ih:=fun cs'=>yQ r cs' (fun y hy=>h y (ah _ hy));rw [List.forIn_cons]
  by_cases hk:k=.free
  ·subst hk;obtain ⟨c,hc⟩:=h _ aD rfl;have e1:cellOf env n=pure c:=by
    unfold cellOf;rw [show env.cells.lookup n=some c from hc]
   have e2:o7 env ((n,.free) :: r) cs=o7 env r ((n,c) :: cs):=by
    show o7 env r (if NameKind.free=.free then (match env.cells.lookup n with | some c=>(n,c) :: cs | none=>cs) else cs)=_;rw [if_pos rfl,show env.cells.lookup n=some c from hc]
   rw [e2,<- ih];simp [e1]
  ·have e2:o7 env ((n,k) :: r) cs=o7 env r cs:=by
    show o7 env r (if k=.free then _ else cs)=_;rw [if_neg hk]
   rw [e2,<- ih];have e3:(k == NameKind.free)=false:=by
    cases k <;> first | rfl | exact absurd rfl hk
   simp [e3]
theorem yR {env:Env}:∀ {names:List (Str×kg)} {cs:List (Str×aa)} {n:Str} {c:aa},(∀ n c,cs.lookup n=some c->env.cells.lookup n=some c)->(o7 env names cs).lookup n=some c->env.cells.lookup n=some c
 | [],_,_,_,h,e=>h _ _ e
 |(m,k) :: r,cs,n,c,h,e=>by
  refine yR (names:=r) (fun n' c' e'=>?_) e
  by_cases hk:k=.free
  ·rw [if_pos hk] at e'
   cases hm:env.cells.lookup m with
   | none =>
    rw [hm] at e';exact h _ _ e'
   | some d =>
    rw [hm] at e';dsimp only at e';rw [cD] at e'
    split at e'
    ·rename_i z
     rw [eq_of_beq z,hm];exact e'
    ·exact h _ _ e'
  ·rw [if_neg hk] at e';exact h _ _ e'
theorem wJ {env:Env}:∀ (names:List (Str×kg)) (cs:List (Str×aa)) (n:Str),(∃ c,cs.lookup n=some c)->∃ c,(o7 env names cs).lookup n=some c
 | [],_,_,h=>h
 |(m,k) :: r,cs,n,h=>by
  refine wJ r _ n ?_
  by_cases hk:k=.free
  ·rw [if_pos hk]
   cases hm:env.cells.lookup m with
   | none=>exact h
   | some d =>
    dsimp only;rw [cD]
    split
    ·exact ⟨_,rfl⟩
    ·exact h
  ·rw [if_neg hk];exact h
theorem yS {env:Env}:∀ {names:List (Str×kg)} {cs:List (Str×aa)} {n:Str},(n,NameKind.free)∈names->(∃ c,env.cells.lookup n=some c)->∃ c,(o7 env names cs).lookup n=some c
 | [],_,_,h,_=>by cases h
 |(m,k) :: r,cs,n,h,hc=>by
  rcases ay.mp h with e | e
  ·obtain ⟨e1,e2⟩:=Prod.mk.inj e;subst e1 e2;obtain ⟨c,hc⟩:=hc;refine wJ r _ n ⟨c,?_⟩;rw [if_pos rfl,hc];dsimp only;rw [cD,beq_self_eq_true]
  ·exact yS (names:=r) e hc
structure iG (X:Cx) (scope:lE) (NN:List Str):Prop where
 nocell:∀ y∈scope.names,y.2≠.cell
 kind:scope.kind=.function
 names:∀ y∈scope.names,y.2=.local->scope.names.lookup y.1=some .local
 far:∀ y∈scope.names,y.2=.free->X.env.kindOf y.1=some .cell\/X.env.kindOf y.1=some .free
 len:NN.length=X.N.length
 apart:∀ (i:Nat) (n:Str),NN[i]?=some n->scope.names.lookup n≠some .local/\(X.N[i]?=some n\/scope.names.lookup n=none)
theorem iG.closed {X:Cx} {scope:lE} (hf:∀ y∈scope.names,y.2≠.free) (hc:∀ y∈scope.names,y.2≠.cell) (hk:scope.kind=.function) (hn:∀ y∈scope.names,y.2=.local->scope.names.lookup y.1=some .local)
  (ha:∀ n∈X.N,scope.names.lookup n≠some .local):iG X scope X.N where
 nocell:=hc
 kind:=hk
 names:=hn
 far:=fun y hy e=>absurd e (hf y hy)
 len:=rfl
 apart:=fun i n e=>⟨ha n (bX e),.inl e⟩
theorem iG.open {X:Cx} {scope:lE} {NN N:List Str} {sc:lE} (hN:X.N=N) (hsc:X.env.scope=sc) (hc:∀ y∈scope.names,y.2≠.cell) (hk:scope.kind=.function) (hn:∀ y∈scope.names,y.2=.local->scope.names.lookup y.1=some .local)
  (hf:∀ y∈scope.names,y.2=.free->sc.names.lookup y.1=some .cell) (hl:NN.length=N.length) (ha:∀ p∈NN.zip N,scope.names.lookup p.1≠some .local/\(p.2=p.1\/scope.names.lookup p.1=none)):iG X scope NN where
 nocell:=hc
 kind:=hk
 names:=hn
 far:=fun y hy e=>.inl (by have z:=hf y hy e; rw [<- hsc] at z; exact z)
 len:=by rw [hN]; exact hl
 apart:=fun i n e=>by
  have lt:i < N.length:=by rw [<- hl]; exact (aC.mp e).1
  have e2:N[i]?=some N[i]:=aj lt;have z:=ha (n,N[i]) (bX (i:=i) (by rw [xQ]; exact ⟨e,e2⟩));refine ⟨z.1,?_⟩
  rcases z.2 with z | z
  ·left
   rw [hN,e2];exact congrArg some z
  ·exact .inr z
abbrev cxC (X:Cx) (scope:lE) (NL:List Str) (fp:List aa) (s₂:ar) (H₂:Hp) (C:aa):Cx:=
 {X with N:=NL,s₀:=s₂,H₀:=H₂,env:=compEnvC scope (o7 X.env scope.names []) C X.env,outer:=X.stack,ex:=fp,fn:=fun _=>false,pn:=[],xe:=fun _ _=>False}
def PTs (X:Cx) (ifs:List cZ) (t:TT):Prop:=
 ∀ (pins:List (aa×Obj)) (s:ar) (σ:St) (H:Hp) (Q:Bool->Hp->Prop),Inv X pins σ H s->t σ H Q ->
  aW (bJ X.prog X.w) X.A (forIn ifs true fun c r=>if r=true then do let ok <- DQ c X.env (fy c X.env); pure (ForInStep.yield ok) else pure (ForInStep.yield r)) (TP X pins σ Q) X.xe s
def vR:TT:=fun _ H Q=>Q true H
theorem kD {X:Cx}:PTs X [] vR:=fun pins s σ H Q I h=>wpAny_tests_nil ⟨H,I,h⟩
theorem HI {X:Cx} {c:cZ} {t:TT} (h:PT X c t):PTs X [c] t:=fun pins s σ H Q I q=>wpAny_tests_one (h pins s σ H Q I q)
def tT (n:Nat) (wi:TI) (g:TG) (tc:TT) (te:TE):TE:=fun σ H Q=>wi σ H fun J H1=>∃ W:Nat->Nat->List V->Hp->Prop,(∃ m,W 0 m [] H1)/\∀ i m ys H,W i m ys H->ys.length < au /\
 ((J.stop i H/\∀ p,H p=none->Q (.ref p) (upd H p (.lst ys))) \/
  (J.go i H/\∃ N:List V->Hp->Prop,(∀ ys' H',N ys' H'->∃ m',m' < m/\W (i + 1) m' ys' H')/\∀ x H',J.yld i H x H'->g x (cH n none++σ) H' fun σ2 H2=>σ2.drop n=σ/\tc σ2 H2 fun b H3 =>
   if b=true then te σ2 H3 fun y H4=>N (ys++[y]) H4 else N ys H3))
section
variable {X:Cx}
theorem yT {σ σ2:St} {n:Nat} (h:σ2.drop n=σ) (i:Nat) (v:V) (e:(cH n none++σ)[i]?=some (some v)):σ2[i]?=some (some v):=by
 by_cases hi:i < n
 ·rw [fk (by simpa using hi),oo,if_pos hi] at e
  cases e
 ·rw [c9 (by simpa using hi),j8] at e;rw [<- h,Dz] at e;rw [show n + (i - n)=i by omega] at e;exact e
theorem yU {elt target iter:cZ} {ifs:List cZ} {scope:lE} {NN:List Str} {pos pos':Pos} {wi:TI} {g:TG} {tc:TT} {te:TE} {use:Option (af->Sem Unit)} {Qv:af->ar->Prop} (own:List Str) (ok:iG X scope NN) (hc:X.calm=true) (hi:PI X target iter wi)
  (hg:∀ fp s₂ H₂ C,PG (cxC X scope (own++NN) fp s₂ H₂ C) target g) (ht:∀ fp s₂ H₂ C,PTs (cxC X scope (own++NN) fp s₂ H₂ C) ifs tc) (he:∀ fp s₂ H₂ C,PE (cxC X scope (own++NN) fp s₂ H₂ C) elt te)
  (hs:∀ x,oI iter X.env x=pure x) {pins:List (aa×Obj)} {s:ar} {σ:St} {H:Hp} {Q:VK} (I:Inv X pins σ H s) (h:tT own.length wi g tc te σ H Q)
  (hfin:∀ (s4:ar) (C D:aa) (H':Hp) (m:Str->Option af),s4.heap.Ns C m->Inv X pins σ H' s4->H' C=none->C≠X.env.locals->X.s₀.heap.objs.size<=C->(∀ x c,X.env.cells.lookup x=some c->c≠C)->(∀ p∈X.pn++pins,p.1≠C)->Q (.ref D) H' ->
   compPost (bJ X.prog X.w) X.A X.xe use Qv (.ref D) C (.ok .next) s4) :
  aW (bJ X.prog X.w) X.A (comprehension (.ListComp elt [⟨target,iter,ifs,0⟩] scope pos) scope X.env pos' (newList []) false (fy iter X.env) use) Qv X.xe s:=by
 have hfr:∀ y∈scope.names,y.2=.free->∃ c,X.env.cells.lookup y.1=some c:=fun y hy e=>I.ok.has _ (ok.far y hy e);have okclos:closureFor scope X.env=pure (o7 X.env scope.names []):=by
  unfold closureFor;rw [<- yQ scope.names [] hfr];simp
 have oksub:∀ n c,(o7 X.env scope.names []).lookup n=some c->X.env.cells.lookup n=some c:=fun n c e=>yR (fun n c e=>by simp at e) e;have okfar:∀ n,(scope.names.lookup n=some .cell\/scope.names.lookup n=some .free)->(∃ c,(o7 X.env scope.names []).lookup n=some c)/\(X.env.kindOf n=some .cell\/X.env.kindOf n=some .free):=fun n e=>by
  rcases e with e | e
  ·exact absurd rfl (ok.nocell _ (gu e))
  ·have m:=gu e;exact ⟨yS m (hfr _ m rfl),ok.far _ m rfl⟩
 refine wpAny_comprehension_free (use:=use) rfl hs okclos ok.kind ok.names (thn (hi pins s σ H _ I h) fun xv s1 h1=>thn h1 fun itv s2 h2=>?_);obtain ⟨it,fp,tn,J,H2,e,I2,T,st2,f2,W,⟨m0,w0⟩,turn⟩:=h2;subst e;have fpLt:∀ b∈fp,b < s2.heap.objs.size:=fun b hb=>by
  obtain ⟨o,e,_⟩:=T.obj _ _ st2 b hb;exact aM e
 refine iY (wpAny_newFunctionEnv ok.nocell (by intro y hy; simp at hy) (fun h1 hns hsb=>?_) ok.kind);dsimp only at hns hsb |-;generalize hP:s2.heap.push {cls:=.type "list",dict:=none,data:=.seq ([]:List af).toArray}=P at hns hsb |-;have hC:P.objs.size=s2.heap.objs.size + 1:=by rw [<- hP,wx]
 have hDC:s2.heap.objs.size≠P.objs.size:=by rw [hC]; exact aN (uV _)
 have leC:s2.heap.objs.size<=P.objs.size:=by rw [hC]; exact gc _
 have old:∀ b o,s2.heap.get? b=some o->h1.get? b=some o:=fun b o e =>
  hsb.extBut b o (by rw [hC]; exact aN (jS (aM e))) (aJ _ (hP ▸ aJ _ e))
 have accAt:h1.get? s2.heap.objs.size=some {cls:=.type "list",data:=.seq ([]:List af).toArray 0}:=hsb.extBut _ _ hDC (aJ _ (hP ▸ cz _ rfl))
 -- the block's context is well made
 have okC:(cxC X scope (own++NN) fp s2 H2 P.objs.size).Ok:=by
  refine ⟨I.ok.mod,ok.kind,I.ok.glob,I.ok.blt,by show s2.heap.objs.size<=P.objs.size; omega,fun y z c a b=>I.ok.inj y z c (oksub _ _ a) (oksub _ _ b),fun y hy=>(okfar y (xP hy)).1,fun y c z _=>uw z,I.ok.hd,I.ok.frames,.inl rfl,
   fun b hb=>⟨fun z=>?_,fun y c e=>(f2 b hb).2.2.2.2.1 y c (oksub _ _ e)⟩,I2.bs,dH I.ok.bsz I2.sz,fun b o e hb=>?_,fun b hb z=>?_,I2.stack,I2.stkFree⟩
  ·exact aN (bK (fpLt b hb) leC) z
  ·rcases (f2 b hb).2.2.2.1 with q | q
   ·exact I.ok.noex b o e q
   ·exact absurd (bK (aM e) (dH I.ok.bsz q)) (hU _)
  ·rcases ay.mp (I2.stkSub b z) with q | q
   ·exact (f2 b hb).2.1 q
   ·exact (f2 b hb).2.2.1 q
 have fpOk:∀ {H':Hp} {o:Obj},(∀ b∈fp,H' b=none)->∀ b∈fp,xq (cxC X scope (own++NN) fp s2 H2 P.objs.size) [(s2.heap.objs.size,o)] H' b:=fun {H' o} hn b hb=>by
  have lt:=fpLt b hb;refine ⟨hn b hb,fun z=>?_,fun z=>okC.exfs b hb z,.inl hb,fun y c e=>(okC.exf b hb).2 y c e,fun p hp z=>?_⟩
  ·exact aN (bK lt leC) z
  ·have hp':p=(s2.heap.objs.size,o):=by simpa using hp
   subst hp';exact aN lt (Eq.symm z)
 have cellNe:∀ y c,(o7 X.env scope.names []).lookup y=some c->c < s2.heap.objs.size:=fun y c e=>by
  obtain ⟨v,q⟩:=I2.cell y c (oksub _ _ e);exact q.lt
 have start:Inv (cxC X scope (own++NN) fp s2 H2 P.objs.size) [] (cH own.length none++σ) H2 {s2 with heap:=h1,toks:=s2.toks + ([]:List (Str×af)).length}:=by
  refine ⟨okC,rfl,I2.bare,Un.kept old,⟨_,hns,fun i y v e1 e2 e3=>?_⟩,fun y c e=>?_,I2.hok.fresh (by show s2.heap.objs.size<=P.objs.size; omega),fun y c e=>I2.freeC y c (oksub _ _ e),fun p hp=>absurd (show p∈([]:List (aa×Obj)) from by simpa using hp) (by simp),I2.hok.kept old,?_⟩
  ·by_cases hi:i < own.length
   ·rw [fk (by simpa using hi),oo,if_pos hi] at e2
    cases e2
   ·have e1n:NN[i - own.length]?=some y:=by
     have z:(own++NN)[i]?=some y:=e1;rw [c9 (by omega)] at z;exact z
    rw [c9 (by simpa using hi),j8] at e2;obtain ⟨ap1,ap2⟩:=ok.apart _ y e1n
    rcases e3 with e3 | e3
    ·exact absurd (yP e3) ap1
    ·obtain ⟨⟨c,hcl⟩,kc⟩:=okfar y (xP e3);have e1':X.N[i - own.length]?=some y:=by
      rcases ap2 with z | z
      ·exact z
      ·rcases xP e3 with q | q <;> (rw [z] at q; cases q)
     obtain ⟨m,hn,hl⟩:=I2.loc;obtain ⟨u,r,l⟩:=hl (i - own.length) y v e1' e2 (.inr kc);refine ⟨u,r,.inr ⟨e3,c,hcl,?_⟩⟩
     rcases l with ⟨l,_⟩ | ⟨_,c',e',q⟩
     ·rcases kc with kc | kc <;> (rw [l] at kc; cases kc)
     ·rw [oksub _ _ hcl] at e'
      cases e';exact q.keeps old
  ·obtain ⟨v,q⟩:=I2.cell y c (oksub _ _ e);exact ⟨v,q.keeps old⟩
  ·show (cH own.length none++σ).length=(own++NN).length;rw [ax,ax,j8,I2.len,ok.len]
 have nDC:s2.heap.objs.size≠P.objs.size:=hDC;have nDf:s2.heap.objs.size∉frs X.stack:=fun z=>by
  rcases ay.mp (I2.stkSub _ z) with q | q
  ·exact aN I2.lt (Eq.symm q)
  ·exact I2.nofs (aE _) q
 have loop:∀ s₃:ar,s₃={s2 with heap:=h1,toks:=s2.toks + ([]:List (Str×af)).length} ->
   oK (bJ X.prog X.w) X.A (.compLoop (.ListComp elt [⟨target,iter,ifs,0⟩] scope pos) 0 (.ref it) (.ref s2.heap.objs.size) (compEnvC scope (o7 X.env scope.names []) P.objs.size X.env))
    (compPost (bJ X.prog X.w) X.A X.xe use Qv (.ref s2.heap.objs.size) P.objs.size) s₃:=by
  rintro s₃ rfl;refine xO (fun n s'=>∃ (i:Nat) (ys:List V) (H':Hp) (its:List af) (k:Nat),Inv (cxC X scope (own++NN) fp s2 H2 P.objs.size) [] (cH own.length none++σ) H' s'/\tn i s'.heap/\(∀ b∈fp,H' b=none)/\H' s2.heap.objs.size=none/\cX ys its /\
   s'.heap.get? s2.heap.objs.size=some {cls:=.type "list",data:=.seq its.toArray k}/\W i n ys H') ?_ m0
   ⟨0,[],H2,[],0,start,T.keep _ _ _ st2 (fun b _ o e=>old b o e),fun b hb=>(f2 b hb).1,I2.hok.fresh (aE _),.nil,accAt,w0⟩
  rintro n s3 ⟨i,ys,H3,its,k,I3,st3,fr3,nD,rv,hD,w3⟩;have Ip:Inv (cxC X scope (own++NN) fp s2 H2 P.objs.size) [(s2.heap.objs.size,{cls:=.type "list",data:=.seq its.toArray k})] (cH own.length none++σ) H3 s3:=I3.pins_of fun p hp=>by
   have hp':p=(s2.heap.objs.size,{cls:=.type "list",data:=.seq its.toArray k}):=by simpa using hp
   subst hp';exact ⟨hD,nD,nDC,nDf,fun v z=>by cases z⟩
  obtain ⟨hl,hw⟩:=turn i n ys H3 w3
  rcases hw with ⟨stop,fin⟩ | ⟨go,N,hN,step⟩
  ·refine thn (T.done (cxC X scope (own++NN) fp s2 H2 P.objs.size) rfl rfl rfl hc i _ s3 _ H3 _ Ip (fpOk fr3) st3 stop) fun r s4 z=>?_;obtain ⟨hr,I4⟩:=z;subst hr;obtain ⟨m,hn,_⟩:=I4.loc;have hD4:s4.heap.get? s2.heap.objs.size=some {cls:=.type "list",data:=.seq its.toArray k}:=(I4.pin _ (bL _ aD)).1;obtain ⟨h',eh'⟩:∃ h',h'=s4.heap:=⟨_,rfl⟩;have sb':∀ b o,b≠P.objs.size->s4.heap.get? b=some o->h'.get? b=some o:=fun b o hb e=>by rw [eh']; exact e
   have oldNe:∀ b o,s2.heap.get? b=some o->b≠P.objs.size/\b≠s2.heap.objs.size:=fun b o e=>by
    have lt:=aM e;exact ⟨aN (bK lt leC),aN lt⟩
   have trNe:∀ b u,H3 b=some u->b≠P.objs.size/\b≠s2.heap.objs.size:=fun b u e=>by
    refine ⟨fun z=>?_,fun z=>?_⟩
    ·have q:H3 P.objs.size=none:=I4.free;rw [<- z,e] at q
     cases q
    ·rw [z,nD] at e
     cases e
   have un:Un (frs X.stack) fp H2 (upd H3 s2.heap.objs.size (.lst ys)) s2.heap h':=by
    have B:=I4.base;refine ⟨fun b o e q hb hx=>sb' b o (oldNe b o e).1 (B.keep b o e q hb hx),fun b o e q hb hx=>?_,fun b o e q hx=>?_,fun b o e hx=>?_,fun b xs e=>?_,fun b o u e=>?_,fun b ps e=>?_⟩
    ·obtain ⟨sl,e1⟩:=B.slot b o e q hb hx;exact ⟨sl,sb' _ _ (oldNe b o e).1 e1⟩
    ·rw [aK (oldNe b o e).2];exact B.free b o e q hx
    ·obtain ⟨o',e1⟩:=B.there b o e hx;exact ⟨o',sb' _ _ (oldNe b o e).1 e1⟩
    ·have q:=B.tups b xs e;rw [aK (trNe _ _ q).2];exact q
    ·have q:=B.frzs b o u e;rw [aK (trNe _ _ q).2];exact q
    ·obtain ⟨more,q⟩:=B.tbls b ps e;refine ⟨more,?_⟩;rw [aK (trNe _ _ q).2];exact q
   have hok:HOk X.prog X.w (upd H3 s2.heap.objs.size (.lst ys)) h':=fun b u e=>by
    by_cases hb:b=s2.heap.objs.size
    ·subst hb;rw [ag] at e
     cases e;exact ⟨lF hl,its,k,rv,sb' _ _ nDC hD4⟩
    ·rw [aK hb] at e;refine (I4.hok b u e).stay (fun c v hc q=>sb' c v ?_ q) (fun c q=>?_) fun c xs q=>?_
     ·rcases hc with z | z
      ·rw [z];exact (trNe _ _ e).1
      ·exact (trNe _ _ z).1
     ·rw [aK (trNe _ _ q).2];exact q
     ·rw [aK (trNe _ _ q).2];exact q
   have J:=I2.call' (s':={s4 with heap:=h'}) (ch:=fp) I4.os un hok I4.bare fun b hb=>⟨(f2 b hb).2.2.2.1,(f2 b hb).2.1,(f2 b hb).2.2.2.2.1,(f2 b hb).2.2.2.2.2⟩;subst eh';refine hfin s4 P.objs.size s2.heap.objs.size (upd H3 s2.heap.objs.size (.lst ys)) m hn J ?_ ?_ ?_ (fun y c e=>?_) (fun q hq=>?_) (fin _ nD)
   ·rw [aK nDC.symm];exact I4.free
   ·exact oP (bK I2.lt leC)
   ·exact dH I2.sz leC
   ·obtain ⟨v,z⟩:=I2.cell y c e;exact aN (bK z.lt leC)
   ·exact aN (bK (aM (I2.pin q hq).1) leC)
  ·refine thn (T.item (cxC X scope (own++NN) fp s2 H2 P.objs.size) rfl rfl rfl hc i _ s3 _ H3 _ Ip (fpOk fr3) st3 go) fun r s4 z=>?_;obtain ⟨u,hr,h4⟩:=z;subst hr;refine thn h4 fun _ s5 z=>?_;obtain ⟨x,H5,I5,r5,y5,st5,fr5⟩:=z;have I5':=I5.pinned (fpOk fr5) (T.obj _ _ st5);refine thn (hg fp s2 H2 P.objs.size _ s5 _ H5 x u _ I5' r5 (step x H5 y5)) fun _ s6 z=>?_;obtain ⟨σ6,H6,I6,hσ,q6⟩:=z;refine thn (ht fp s2 H2 P.objs.size _ s6 σ6 H6 _ I6 q6) fun okb s7 z=>?_;obtain ⟨H7,I7,q7⟩:=z;have pinD:∀ {H8:Hp} {s8:ar},Inv (cxC X scope (own++NN) fp s2 H2 P.objs.size) ([(s2.heap.objs.size,{cls:=.type "list",data:=.seq its.toArray k})]++sE fp s5.heap) σ6 H8 s8 ->
     s8.heap.get? s2.heap.objs.size=some {cls:=.type "list",data:=.seq its.toArray k}/\H8 s2.heap.objs.size=none:=fun I8=>by
    have z:=I8.pin (s2.heap.objs.size,{cls:=.type "list",data:=.seq its.toArray k}) (bL _ (gX _ aD));exact ⟨z.1,z.2.1⟩
   have pinF:∀ {H8:Hp} {s8:ar},Inv (cxC X scope (own++NN) fp s2 H2 P.objs.size) ([(s2.heap.objs.size,{cls:=.type "list",data:=.seq its.toArray k})]++sE fp s5.heap) σ6 H8 s8 ->
     tn (i + 1) s8.heap/\∀ b∈fp,H8 b=none:=fun {H8 s8} I8=>by
    refine ⟨T.keep _ _ _ st5 fun b hb o e=>(I8.pin (b,o) (bL _ (bL _ (nr hb e)))).1,fun b hb=>?_⟩;obtain ⟨o,e,_⟩:=T.obj _ _ st5 b hb;exact (I8.pin (b,o) (bL _ (bL _ (nr hb e)))).2.1
   have len6:(cH own.length none++σ).length=σ6.length:=by rw [I6.len,start.len]
   cases okb with
   | false =>
    have q7':N ys H7:=q7;obtain ⟨m',lt,w'⟩:=hN _ _ q7';obtain ⟨d1,d2⟩:=pinD I7;obtain ⟨p1,p2⟩:=pinF I7;have J7:Inv (cxC X scope (own++NN) fp s2 H2 P.objs.size) [] σ6 H7 s7:=I7.pins_of (fun p hp=>absurd hp (by simp));exact ⟨m',lt,i + 1,ys,H7,its,k,J7.weak len6 (yT hσ),p1,p2,d2,rv,d1,w'⟩
   | true =>
    refine thn (he fp s2 H2 P.objs.size _ s7 σ6 H7 _ I7 q7) fun v8 s8 z=>?_;obtain ⟨y,H8,I8,r8,n8⟩:=z;obtain ⟨m',lt,w'⟩:=hN _ _ n8;obtain ⟨d1,d2⟩:=pinD I8;obtain ⟨p1,p2⟩:=pinF I8;refine append_at (hsz:=by rw [aB,<- rv.length]; exact lF hl) d1 fun h9 sb hD9=>?_;have J8:Inv (cxC X scope (own++NN) fp s2 H2 P.objs.size) [] σ6 H8 s8:=I8.pins_of (fun p hp=>absurd hp (by simp));have J9:Inv (cxC X scope (own++NN) fp s2 H2 P.objs.size) [] σ6 H8 {s8 with heap:=h9}:=J8.turned (t':=s8.toks) (it:=s2.heap.objs.size) (fun b o hb e=>sb.extBut b o hb e) d2 nDC (.inr (aE _)) (fun y c e=>aN (cellNe y c e)) (fun p hp=>absurd hp (by simp));refine ⟨m',lt,i + 1,ys++[y],H8,its++[v8],k + 1,J9.weak len6 (yT hσ),T.keep _ _ _ p1 (fun b hb o e=>sb.extBut b o (aN (fpLt b hb)) e),p2,d2,rv.append (.cons r8 .nil),?_,w'⟩;show h9.get? _=_;rw [hD9,List.push_toArray]
 exact codeAny_compStart_list (loop _ rfl) (T.self X.A 0 _ _ _ (T.keep _ _ _ st2 (fun b _ o e=>old b o e)) (loop _ rfl))
theorem uy {elt target iter:cZ} {ifs:List cZ} {scope:lE} {NN:List Str} {pos:Pos} {wi:TI} {g:TG} {tc:TT} {te:TE} (own:List Str) (ok:iG X scope NN) (hc:X.calm=true) (hi:PI X target iter wi)
  (hg:∀ fp s₂ H₂ C,PG (cxC X scope (own++NN) fp s₂ H₂ C) target g) (ht:∀ fp s₂ H₂ C,PTs (cxC X scope (own++NN) fp s₂ H₂ C) ifs tc) (he:∀ fp s₂ H₂ C,PE (cxC X scope (own++NN) fp s₂ H₂ C) elt te)
  (hs:∀ x,oI iter X.env x=pure x:=by intro _; rfl):PE X (.ListComp elt [⟨target,iter,ifs,0⟩] scope pos) (tT own.length wi g tc te):=by
 intro pins s σ H Q I h;rw [eval_ListComp];refine yU (use:=none) own ok hc hi hg ht he hs I h fun s4 C D H' m hn J n1 n2 n3 n4 n5 q=>?_;exact ⟨m,hn,fun h' sb=>⟨.ref D,H',J.turned (t':=s4.toks) (it:=C) (fun b o hb e=>sb.extBut b o hb e) n1 n2 (.inr n3) n4 n5,rfl,q⟩⟩
theorem pZ {elt target iter:cZ} {ifs:List cZ} {scope:lE} {NN:List Str} {pos pos' spos:Pos} {wi:TI} {g:TG} {tc:TT} {te:TE} {i:Nat} {x:Str} (own:List Str) (ok:iG X scope NN) (hc:X.calm=true) (hN:X.N.Nodup) (hx0:X.N[i]?=some x) (hx:Loc X.env.scope x) (hi:PI X target iter wi)
  (hg:∀ fp s₂ H₂ C,PG (cxC X scope (own++NN) fp s₂ H₂ C) target g) (ht:∀ fp s₂ H₂ C,PTs (cxC X scope (own++NN) fp s₂ H₂ C) ifs tc) (he:∀ fp s₂ H₂ C,PE (cxC X scope (own++NN) fp s₂ H₂ C) elt te)
  (hs:∀ x,oI iter X.env x=pure x:=by intro _; rfl) (hf:X.fn x=true\/X.env.scope.names.lookup x=some .local:=by first | exact .inl rfl | exact .inr rfl | assumption)
  (hsw:tM (.ListComp elt [⟨target,iter,ifs,0⟩] scope pos) (some (.Name x pos')) spos.line X.env=pure true:=by rfl):PS X (.Assign [.Name x pos'] (.ListComp elt [⟨target,iter,ifs,0⟩] scope pos) spos) (DZ (tT own.length wi g tc te) (yF i)):=by
 intro pins s σ H D I h;rw [exec_Assign_Name_used _ _ _ _ hsw];refine aq (uq (aq ?_));show aW _ X.A (do let _ <- comprehension (.ListComp elt [⟨target,iter,ifs,0⟩] scope pos) scope X.env _ (newList []) false (fy iter X.env) (some (xo (.Name x pos') X.env))) _ _ s;refine aq (eN (yU (use:=some (xo (.Name x pos') X.env)) (Qv:=fun _ s'=>SP X pins D .next s') own ok hc hi hg ht he hs I h fun s4 C DD H' m hn J n1 n2 n3 n4 n5 q=>?_) (fun _ s' hq=>aP (aP hq)) fun _ _ e=>e);show aW _ X.A (xo (.Name x pos') X.env (.ref DD)) _ _ s4;refine MI (v9 J hN hx0 hx (show RelV (.ref DD) (.ref DD) from rfl) (fun s' J' z=>?_) hf);obtain ⟨a,sb,ha⟩:=z;have na:C≠a:=by
  rcases ha with ha | ha
  ·rw [ha];exact n2
  ·exact (n4 x a ha).symm
 refine ⟨m,hn.at' fun o e=>sb.extBut C o na e,fun h' sb2=>⟨_,H',J'.turned (t':=s'.toks) (it:=C) (fun b o hb e=>sb2.extBut b o hb e) n1 n2 (.inr n3) n4 n5,q⟩⟩
end
section
variable {K:ae} {a:aa} {xs:List V} {n:Nat} {g:TG} {tc:TT} {te:TE} {σ:St} {H:Hp} {Q:VK}
theorem sS (Pv:Nat->List V->Hp->Prop) (h0:Pv 0 [] H) (hl:∀ i ys H,i<=xs.length->Pv i ys H->SqL K H a xs/\ys.length < au)
  (hs:∀ i x ys H,xs[i]?=some x->Pv i ys H->g x (cH n none++σ) H fun σ2 H2=>σ2.drop n=σ/\tc σ2 H2 fun b H3=>if b=true then te σ2 H3 fun y H4=>Pv (i + 1) (ys++[y]) H4 else Pv (i + 1) ys H3)
  (hd:∀ ys H,Pv xs.length ys H->∀ p,H p=none->Q (.ref p) (upd H p (.lst ys))) :
  ∃ W:Nat->Nat->List V->Hp->Prop,(∃ m,W 0 m [] H)/\∀ i m ys H,W i m ys H->ys.length < au/\(((Itl K a).stop i H/\∀ p,H p=none->Q (.ref p) (upd H p (.lst ys))) \/
   ((Itl K a).go i H/\∃ N:List V->Hp->Prop,(∀ ys' H',N ys' H'->∃ m',m' < m/\W (i + 1) m' ys' H')/\∀ x H',(Itl K a).yld i H x H'->g x (cH n none++σ) H' fun σ2 H2=>σ2.drop n=σ/\tc σ2 H2 fun b H3 =>
    if b=true then te σ2 H3 fun y H4=>N (ys++[y]) H4 else N ys H3)):=by
 refine ⟨fun i m ys H=>m=xs.length - i/\i<=xs.length/\Pv i ys H,⟨xs.length,by simp,bH _,h0⟩,?_⟩;rintro i m ys H ⟨rfl,hi,p⟩;obtain ⟨q,z⟩:=hl i ys H hi p;refine ⟨z,?_⟩
 by_cases hlt:i < xs.length
 ·refine .inr ⟨⟨xs,xs[i],q,by simp [hlt]⟩,Pv (i + 1),fun ys' H' p'=>⟨xs.length - (i + 1),by omega,rfl,hlt,p'⟩,fun x H' y=>?_⟩;obtain ⟨e,y⟩:=y;subst e;exact hs i x ys _ (y xs q) p
 ·have e:i=xs.length:=by omega
  subst e;exact .inl ⟨⟨xs,q,aE _⟩,hd ys H p⟩
theorem EK (Pv:Nat->List V->Hp->Prop) (h0:Pv 0 [] H) (hl:∀ i ys H,i<=xs.length->Pv i ys H->SqT K H a xs/\ys.length < au)
  (hs:∀ i x ys H,xs[i]?=some x->Pv i ys H->g x (cH n none++σ) H fun σ2 H2=>σ2.drop n=σ/\tc σ2 H2 fun b H3=>if b=true then te σ2 H3 fun y H4=>Pv (i + 1) (ys++[y]) H4 else Pv (i + 1) ys H3)
  (hd:∀ ys H,Pv xs.length ys H->∀ p,H p=none->Q (.ref p) (upd H p (.lst ys))) :
  ∃ W:Nat->Nat->List V->Hp->Prop,(∃ m,W 0 m [] H)/\∀ i m ys H,W i m ys H->ys.length < au/\(((Itt K a).stop i H/\∀ p,H p=none->Q (.ref p) (upd H p (.lst ys))) \/
   ((Itt K a).go i H/\∃ N:List V->Hp->Prop,(∀ ys' H',N ys' H'->∃ m',m' < m/\W (i + 1) m' ys' H')/\∀ x H',(Itt K a).yld i H x H'->g x (cH n none++σ) H' fun σ2 H2=>σ2.drop n=σ/\tc σ2 H2 fun b H3 =>
    if b=true then te σ2 H3 fun y H4=>N (ys++[y]) H4 else N ys H3)):=by
 refine ⟨fun i m ys H=>m=xs.length - i/\i<=xs.length/\Pv i ys H,⟨xs.length,by simp,bH _,h0⟩,?_⟩;rintro i m ys H ⟨rfl,hi,p⟩;obtain ⟨q,z⟩:=hl i ys H hi p;refine ⟨z,?_⟩
 by_cases hlt:i < xs.length
 ·refine .inr ⟨⟨xs,xs[i],q,by simp [hlt]⟩,Pv (i + 1),fun ys' H' p'=>⟨xs.length - (i + 1),by omega,rfl,hlt,p'⟩,fun x H' y=>?_⟩;obtain ⟨e,y⟩:=y;subst e;exact hs i x ys _ (y xs q) p
 ·have e:i=xs.length:=by omega
  subst e;exact .inl ⟨⟨xs,q,aE _⟩,hd ys H p⟩
end
end L2
namespace PySem
theorem xR:KJ (.type "list") "keys"=pure none:=by rw [typeLookup_type,builtinLookup_eq_fast]; kernel_rfl
theorem yV:entryFor table "dict.update.loop"=some iX.«dict.update.loop»:=entryFor_of_tree (by kernel_rfl)
section
variable {prog:aL} {w:bN} {A:bZ} {E:af->ar->Prop} {s:ar}
theorem HJ {a:aa} {xs:Array af} {k:Nat} {sl:Array (Option af)} {Q:Option af->ar->Prop} (hx:s.heap.get? a=some {cls:=.type "list",dict:=none,data:=.seq xs k,slots:=sl}) (hA:A.handled=none)
  (h:∀ h' tk,(∀ b o,s.heap.get? b=some o->h'.get? b=some o)->Q none {s with heap:=h',toks:=tk}):aW (bJ prog w) A (getAttr? (.ref a) "keys") Q E s:=by
 obtain ⟨hp,g,d,tk,os⟩:=s;have hT:∀ tk',(⟨hp,g,d,tk',os⟩:ar).TypeIs (.ref a) "list":=fun _=>⟨_,hx,rfl⟩;have f1:=sub_AttributeError;have f3:=F.slot_list_getattribute.lookup;have f4:=F.slot_list_getattribute.bind (.ref a);have f5:=am_list_getattr_none;unfold getAttr? getAttrBy? getAttrBy;have go:∀ (u:Tok) (tk:Nat) (Q:af->ar->Prop) (E:af->ar->Prop),(∀ h' tk' e,Heap.NewAttrErr hp h' e (.ref a) "keys"->E (.ref e) ⟨h',g,d,tk',os⟩)->aW (bJ prog w) A (xr (Value.builtin "list.__getattribute__") [.ref a,.str "keys" u]) Q E ⟨hp,g,d,tk,os⟩:=fun u tk Q E k1 =>
  qI F.slot_list_getattribute (hT _) am_entry_list_getattribute (F.args_list_getattribute_2 _ _) (meets_getattribute_miss_list a xs k sl "keys" _ xR (by decide +kernel)) ⟨hx,hA,fun h' tk' e hx'=>k1 h' tk' e hx'⟩
 repeat (any_goals (first | assumption | exact hT _ | refine go _ _ _ _ (fun h' tk' e hx'=>?_) | wp_step))
 obtain ⟨t',u',he⟩:=hx'.there
 repeat (any_goals (first | assumption | wp_step))
 exact h _ _ hx'.keeps
def Ac {prog:aL} {w:bN} {K:Type} [DecidableEq K] (knd:KeyKind prog w K) (h:cF) (p:K×af) (x:af):Prop:=
 ∃ (a:aa) (kv:af) (o:Obj) (n:Nat),x=.ref a/\h.get? a=some o/\o.cls=.type "tuple"/\o.data=.seq #[kv,p.2] n/\knd.is p.1 kv=true
variable {K:Type} [DecidableEq K] {knd:KeyKind prog w K}
theorem EL {a:aa} {o:Obj} {n:Nat} {k v:af} {Q:List af->ar->Prop} (ho:s.heap.get? a=some o) (hc:o.cls=.type "tuple") (hd:o.data=.seq #[k,v] n) (h:Q [k,v] s):aW (bJ prog w) A (uz (.ref a)) Q E s:=by
 unfold uz;have hT:s.TypeIs (.ref a) "tuple":=⟨o,ho,hc⟩;refine aq (Es hT ?_);rw [if_pos (by decide)];refine aq (wpAny_seqItems ho hd (aP ?_));exact h
theorem Bi {R:KG->ar->Prop} {it l d:aa} {items:Array af} {result:af} (hA:A.handled=none) (hl:l≠d) (hi:it≠d) (hil:it≠l):∀ (ps:List (K×af)) (i:Nat) (kvs:List (K×af)) (s:ar) (t:Tok) (z:Int),
  s.heap.IsListIter it l i->s.heap.IsList l items->s.heap.DictOf knd d kvs->aI (fun p x=>Ac knd s.heap p x/\x≠.ref d/\x≠.ref it) ps (items.toList.drop i)->kvs.length + ps.length<=au ->
  (∀ h' tk,h'.DictOf knd d (ps.foldl (fun m p=>xI m p.1 p.2) kvs)->(∀ b o,b≠d->b≠it->s.heap.get? b=some o->h'.get? b=some o)->R (.ok (.ret result)) {s with heap:=h',toks:=tk}) ->
  oK (bJ prog w) A (.builtin "dict.update.loop" ⟨[.ref d,.ref it,.int z t,result],[]⟩) R s
 | [],i,kvs,s,t,z,hit,hls,hd,hp,hz,h=>by
  have hnil:items.toList.drop i=[]:=by
   have e:=hp.length;exact List.length_eq_zero_iff.mp e.symm
  have hx:items[i]?=none:=by
   have e:=List.drop_eq_nil_iff.mp hnil;simp only [gs] at e;exact Array.getElem?_eq_none e
  refine qU yV ?_;unfold iX.«dict.update.loop»;dsimp only;refine aq (q9 hA hit hls hx fun h' eb=>?_);dsimp only;refine aq ?_;unfold Builtin.Dict.addKeywords;refine aP ?_;refine aP (h h' _ (hd.extBut eb hi.symm) fun b o _ hb e=>eb b o hb e)
 | p :: ps,i,kvs,s,t,z,hit,hls,hd,hp,hz,h=>by
  cases e0:items.toList.drop i with
  | nil =>
   rw [e0] at hp
   cases hp
  | cons x r =>
   rw [e0] at hp
   cases hp with
   | cons h1 h2 =>
    obtain ⟨⟨a,kv,o,n,rfl,ho,hc,hdt,hk⟩,nd,ni⟩:=h1;have hx:items[i]?=some (.ref a):=by
     have e:=congrArg (fun l=>l[0]?) e0;simpa using e
    have hr:items.toList.drop (i + 1)=r:=by
     have e:=congrArg List.tail e0;simpa using e
    refine qU yV ?_;unfold iX.«dict.update.loop»;dsimp only;refine aq (qE hit hls hx fun h1' hit' sb=>?_);dsimp only;refine aq (dD (aq (wpAny_tryCatch ?_)));have nai:a≠it:=fun q=>ni (by rw [q]);have nad:a≠d:=fun q=>nd (by rw [q]);refine EL (s:={s with heap:=h1'}) ((sb.2 a nai).trans ho) hc hdt ?_;dsimp only;refine dD (wpAny_dictSet_pairs (s:={s with heap:=h1'}) hk (hd.extBut sb.extBut hi.symm) (fun h2' hd2 sb2=>?_) (by simp only [aR] at hz; omega));refine aP ⟨DG _ (by decide +kernel),?_⟩;have keep:∀ b ob,b≠d->b≠it->s.heap.get? b=some ob->h2'.get? b=some ob:=fun b ob nb1 nb2 e=>sb2.extBut b ob nb1 (sb.extBut b ob nb2 e);refine Bi (items:=items) hA hl hi hil ps (i + 1) (xI kvs p.1 p.2) {s with heap:=h2',toks:=s.toks + 1} _ _ ?_ ?_ hd2 ?_ ?_ ?_
    ·obtain ⟨oi,ei,ci,di⟩:=hit';exact ⟨oi,sb2.extBut it oi hi ei,ci,di⟩
    ·obtain ⟨ol,el,cl⟩:=hls;exact ⟨ol,keep l ol hl hil.symm el,cl⟩
    ·rw [hr];clear e0 hr h hz hd hit hit' hls
     induction h2 with
     | nil=>exact .nil
     | cons q1 q2 ih =>
      refine .cons ?_ ih;obtain ⟨⟨a',kv',o',n',rfl,ho',hc',hdt',hk'⟩,nd',ni'⟩:=q1;exact ⟨⟨a',kv',o',n',rfl,keep a' o' (fun q=>nd' (by rw [q])) (fun q=>ni' (by rw [q])) ho',hc',hdt',hk'⟩,nd',ni'⟩
    ·have hs:(xI kvs p.1 p.2).length<=kvs.length + 1:=by
      unfold xI
      split
      ·rw [ai];omega
      ·simp
     simp only [aR] at hz;omega
    ·intro h' tk hd' k';exact h h' tk hd' fun b ob nb1 nb2 e=>k' b ob nb1 nb2 (keep b ob nb1 nb2 e)
theorem HK {l:aa} {items:Array af} {k:Nat} {sl:Array (Option af)} {ps:List (K×af)} {Q:af->ar->Prop} (hA:A.handled=none) (hx:s.heap.get? l=some {cls:=.type "list",dict:=none,data:=.seq items k,slots:=sl})
  (hp:aI (Ac knd s.heap) ps items.toList) (hz:ps.length<=au)
  (h:∀ h' tk,h'.DictOf knd s.heap.objs.size (ps.foldl (fun m p=>xI m p.1 p.2) [])->(∀ b o,s.heap.get? b=some o->h'.get? b=some o)->Q (.ref s.heap.objs.size) {s with heap:=h',toks:=tk}) :
  aW (bJ prog w) A (xr (.type "dict") [.ref l]) Q E s:=by
 refine callType_codes (Q₁:=fun obj s1=>obj=.ref s.heap.objs.size/\s1={s with heap:=s.heap.push {cls:=.type "dict",data:=.dict #[]}}) F.kt_called_dict (F.kt_typeCall_dict_1 _) F.entry_dict_init (kt_code_dict_new _ ⟨rfl,rfl⟩) ?_;rintro obj s1 ⟨rfl,rfl⟩;have hnew:(s.heap.push {cls:=.type "dict",data:=.dict #[]}).DictOf knd s.heap.objs.size []:=zC s.heap;have up:∀ b o,s.heap.get? b=some o->(s.heap.push {cls:=.type "dict",data:=.dict #[]}).get? b=some o:=fun b o e=>aJ _ e;have hlt:=aM hx;refine ⟨hnew.typeIs,F.args_dict_init_2 _ _,?_⟩;unfold iX.«dict.__init__»;refine aq ?_;unfold Builtin.Dict.selfAndRest;refine aq (wpAny_notOrdered_dict hnew.typeIs ?_);show aW _ _ (pure (s.heap.objs.size,[Value.ref l])) _ _ _;refine aP ?_;show aW _ _ (ug "dict.__init__" s.heap.objs.size (.ref l) [] .none) _ _ _;unfold ug;have hT:({s with heap:=s.heap.push {cls:=.type "dict",data:=.dict #[]}}:ar).TypeIs (.ref l) "list":=⟨_,up _ _ hx,rfl⟩;refine aq (Es hT ?_);rw [if_pos (by decide)];refine aq (HJ (s:={s with heap:=s.heap.push {cls:=.type "dict",data:=.dict #[]}}) (up _ _ hx) hA fun h1 tk1 k1=>?_);rw [if_pos (by rfl)];refine aq (Ad (aq ?_));have hl1:h1.IsList l items:=⟨_,k1 _ _ (up _ _ hx),rfl,k,rfl⟩;refine vL (s:={s with heap:=h1,toks:=tk1}) hl1 ?_;have sz1:s.heap.objs.size < h1.objs.size:=by
  obtain ⟨o,_,_,e,_⟩:=hnew;exact aM (k1 _ _ e)
 have up2:∀ b o,s.heap.get? b=some o->(h1.push {cls:=.type "list_iterator",data:=.fields #[.ref l,.int 0 0]}).get? b=some o:=fun b o e=>aJ _ (k1 _ _ (up _ _ e));refine aP ⟨DG _ (by decide +kernel),?_⟩;refine Bi (A:=A.in1) (knd:=knd) (items:=items) hA (l:=l) (aN hlt) (oP sz1) (oP (o6 hlt sz1)) ps 0 [] _ _ _ ?_ ?_ ?_ ?_ ?_ ?_
 ·exact ⟨_,cz _ rfl,rfl,rfl⟩
 ·exact hl1.push _
 ·obtain ⟨o,es,ep,e,r⟩:=hnew;exact ⟨o,es,ep,aJ _ (k1 _ _ e),r⟩
 ·rw [lO];clear h hz;generalize items.toList=xs at hp
  induction hp with
  | nil=>exact .nil
  | cons q1 q2 ih =>
   refine .cons ?_ ih;obtain ⟨a,kv,o,n,rfl,ho,hc,hd,hk⟩:=q1;have la:=aM ho;refine ⟨⟨a,kv,o,n,rfl,up2 _ _ ho,hc,hd,hk⟩,fun q=>?_,fun q=>?_⟩
   ·injection q with q;exact aN la q
   ·injection q with q;exact aN (o6 la sz1) q
 ·simpa using hz
 ·intro h' tk hd k';refine ⟨rfl,h h' tk hd fun b o e=>k' b o ?_ ?_ (up2 b o e)⟩
  ·exact aN (aM e)
  ·exact aN (o6 (aM e) sz1)
end
end PySem
namespace L2
open PySem PySem.Spec PyProof.Rows
section
variable {X:Cx}
theorem wK {n:Nat} (h:n < 2 ^ 64):n.log2 < 9000:=by
 by_cases z:n=0
 ·subst z;decide
 ·exact o6 ((Nat.log2_lt z).mpr h) (by decide)
def CDivB (_ j:Int):Prop:=0 < j/\j < 2 ^ 64
theorem yW:OpR X (ij .FloorDiv) (rI CDivB fun i j=>.int (i / j)):=opI fun i j _ _ _ _ _ hc q=>by
 have h1:(0:Int) < j:=hc.1;have h2:j < 2 ^ 64:=hc.2;have h3:j.natAbs < 2 ^ 64:=by omega
 exact Eg (by omega) (by rw [xu i (by omega)]; exact q) (.inl (vS (wK h3)))
def CDivM (_ j:Int):Prop:=j≠0/\j.natAbs < 2 ^ 64
theorem EM:OpR X (ij .FloorDiv) (rI CDivM fun i j=>.int (i.fdiv j)):=opI fun _ _ _ _ _ _ _ hc q=>Eg hc.1 q (.inl (vS (wK hc.2)))
theorem j9:oQ X (.builtin "isinstance") (fun xs H Q=>∃ x n t b,xs=[x,.ty n]/\sM X.K H x t/\gC X.K t (.type n)=some b/\Q (.bl b) H):=by
 intro pins s σ H xs us Q I r h;obtain ⟨x,n,t,b,rfl,ty,e,q⟩:=h;obtain ⟨u,w',rfl,rx,rt⟩:=vals2 r
 cases (show w'=Value.type n from rt);exact Cp I rx ty e fun tk=>⟨.bl b,H,I.tok _,rfl,q⟩
def uA (H:Hp):List (Key×V)->List V->Prop:=aI fun (p:Key×V) x=>∃ a,x=V.ref a/\H a=some (.tup [kV p.1,p.2])
theorem EN {P:aL} {w:bN} {H:Hp} {h:cF} (ok:HOk P w H h):∀ {ps:List (Key×V)} {vs:List V} {us:List af},uA H ps vs->cX vs us->∃ qs:List (Key×af),KV ps qs/\aI (Ac (fK P w) h) qs us:=by
 intro ps vs us r;unfold uA at r
 induction r generalizing us with
 | nil =>
  intro v
  cases v;exact ⟨[],.nil,.nil⟩
 | @cons p x ps vs q1 q2 ih =>
  intro v
  cases v with
  | cons r1 r2 =>
   obtain ⟨a,rfl,ha⟩:=q1;obtain ⟨qs,k1,k2⟩:=ih r2
   cases r1;obtain ⟨_,its,rv,o,ho,hc,n,hd⟩:=(show eE P w H h a (.tup [kV p.1,p.2]) from ok a _ ha);obtain ⟨ku,vu,rfl,rk,rw'⟩:=vals2 rv;exact ⟨(p.1,vu) :: qs,.cons ⟨rfl,rw'⟩ k1,.cons ⟨a,ku,o,n,rfl,ho,hc,hd,yM rk⟩ k2⟩
theorem HL {ps:List (Key×V)} {qs:List (Key×af)} (r:KV ps qs):∀ {m:List (Key×V)} {n:List (Key×af)},KV m n->KV (ps.foldl (fun m p=>jI m p.1 p.2) m) (qs.foldl (fun m p=>xI m p.1 p.2) n):=by
 unfold KV at r
 induction r with
 | nil =>
  intro m n k;exact k
 | @cons p q ps qs h t ih =>
  intro m n k;obtain ⟨h1,h2⟩:=h;rw [o8,o8,<- h1];exact ih (k.put p.1 h2)
theorem yX (ps:List (Key×V)):∀ m:List (Key×V),(ps.foldl (fun m p=>jI m p.1 p.2) m).length<=m.length + ps.length:=by
 induction ps with
 | nil =>
  intro m;exact aE _
 | cons p ps ih =>
  intro m;rw [o8,aR];have h1:=ih (jI m p.1 p.2);have h2:=o5 m p.1 p.2;omega
theorem Ae (hc:X.calm=true):oQ X (.type "dict") (fun xs H Q=>∃ p vs ps,xs=[V.ref p]/\H p=some (.lst vs)/\uA H ps vs/\ps.length<=au/\∀ d,H d=none->Q (.ref d) (upd H d (.dK (ps.foldl (fun m p=>jI m p.1 p.2) [])))):=by
 intro pins s σ H xs us Q I r h;obtain ⟨p,vs,ps,rfl,hp,pi,hz,q⟩:=h;obtain ⟨u,rfl,ru⟩:=vals1 r
 cases ru;obtain ⟨_,its,n,rv,ho⟩:=(show eE X.prog X.w H s.heap p (.lst vs) from I.hok p _ hp);obtain ⟨qs,k1,k2⟩:=EN I.hok pi rv;refine HK (knd:=fK X.prog X.w) (I.ok.hd hc) ho k2 (by rw [<- k1.length]; exact hz) fun h' tk hd kk=>?_;have hf:=HL k1 (m:=[]) (n:=[]) .nil;have hl:=yX ps [];refine ⟨.ref s.heap.objs.size,_,I.laid (a:=s.heap.objs.size) (o:=.dK (ps.foldl (fun m p=>jI m p.1 p.2) [])) (t':=tk) kk (aE _) ?_,rfl,q _ (I.hok.fresh (aE _))⟩;exact z9 (by simp only [cU] at hl; omega) (beq_eq_false_iff_ne.mpr (fV (aN I.big))) hf hd
end
end L2
namespace Att
open PySem PySem.W PySem.Calls PyProof.Rows
theorem weight_mem:∀ (xs:List WData) (x:WData),x∈xs->kW x<=uZ xs
 | [],_,h=>by cases h
 | y :: r,x,h=>by
  unfold uZ
  rcases ay.mp h with e | e
  ·subst e;omega
  ·have:=weight_mem r x e;omega
theorem bits_of_lay {ns:List Int} (h:WData.layableAll [WData.list (ns.map WData.int)]=true):∀ n∈ns,fH n<=1048576:=fun n hn=>by
 have h1:(WData.list (ns.map WData.int)).layable=true:=(layW_cons h).1;unfold WData.layable at h1;have h2:kW (WData.list (ns.map WData.int))<=2 ^ 20:=of_decide_eq_true (qy.mp h1).2;have h3:=weight_mem (ns.map WData.int) (WData.int n) (cB.mpr ⟨n,hn,rfl⟩);have h4:kW (WData.list (ns.map WData.int))=uZ (ns.map WData.int):=by
  rw [kW]
 have h5:kW (WData.int n)=fH n:=by
  rw [kW];rfl
 have e:(2:Nat) ^ 20=1048576:=by decide
 omega
theorem attach_callB {l:OpenLaw} {n:Nat} {q:aL} {loose:List Str} {XP:(Str->Option af)->cF->Prop} {YP:bN->cF->Prop} {d:DefRec}
  (hn:l.most=some n) (hdf:d.params.defaults=[])
  (xr:∀ (w:bN) (s₀ s₁:ar) (mg mb:Str->Option af) (fa:aa) (a:aa) (vs:List af) (ns:List Int),
   Ground q loose [] XP w s₀ mg mb s₁.heap->YP w s₁.heap->mg d.name=some (.ref fa) ->
   s₁.heap.get? a=some {cls:=.type "list",data:=.seq vs.toArray}->fv vs ns->ns.length<=n->(∀ x∈ns,fH x<=1048576)->s₁.gens=#[] ->
   oK (bJ l.prog w) vQ (.call (.ref fa) ⟨[.ref a],[]⟩) (fun r s'=>r=.ok (.ret (.bool true))/\OldK s₁.heap s'.heap/\s'.os=s₁.os/\oG s'.gens) s₁) :
  WalkO q loose XP YP l.row.toRowW d [] (fun f vs=>Cw f vs):=by
 intro w s₀ s₁ mg mb G Y fa o pm cd doc dV kV ho hd hcd hD hmg hg args vals as hpre hlay hrd hwl hlo;obtain rfl:dV=.none:=Dflts.none hD hdf;obtain rfl:kV=.none:=Dflts.noKw hD;obtain ⟨a,vs,ns,rfl,rfl,hobj,hints,hlen⟩:=script_of hn hpre hwl;refine enter_call (mE (xr w s₀ s₁ mg mb fa a vs ns G Y hmg hobj hints hlen (bits_of_lay hlay) hg) fun r s' hq=>?_);obtain ⟨rfl,h2,h3,h4⟩:=hq;exact ⟨.inl ⟨.bool true,.bool true,[],rfl,fun _=>rfl,.bool true,post_true l _,fun _=>⟨List.Pairwise.nil,fun _ hm=>(nomatch hm)⟩⟩,h2,h3,h4⟩
end Att
namespace L2
open PySem PySem.Spec PyProof.Rows
theorem walk_ofB {l:uh} {n k:Nat} {q:aL} {loose:List Str} {XP:(Str->Option af)->cF->Prop} {YP:bN->cF->Prop} {d:DefRec} {K:Params->ae} {CX:bN->CXT} {sp:bN->Sp} {x:Str}
  (hn:l.most=some n) (hn2:n<=au) (hdf:d.params.defaults=[]) (hr:d5 k vQ)
  (hY:∀ (w:bN) (h:cF),YP w h->(K w.params).In h)
  (F:∀ (w:bN) (mg:Str->Option af) (fa:aa) (h:cF),(K w.params).In h->h.Ns bP mg->mg d.name=some (.ref fa) ->
   ∃ fd:cw,(∀ (s:ar) (u:af),tP s fd ⟨[u],[]⟩ [(x,u)]) /\
    ∀ base:cF,(K w.params).In base->base.Ns bP mg->cm l.prog w (K w.params) mg base (CX w) k fa fd [x] (sp w))
  (hsp:∀ (w:bN) (H:Hp) (a:aa) (ns:List Int),ns.length<=n->(∀ x∈ns,fH x<=1048576)->SqL (K w.params) H a (ns.map V.int)->sp w [.ref a] H (fun v _=>v=.bl true) fun _ _ _=>False)
  (hCX:∀ (w:bN) (H:Hp) (s:ar) (e:af) (s':ar),CX w [] H s (fun _ _ _=>False) e s'->False) :
  Hg q loose XP YP l.row.toRowW d [] (fun f vs=>Cw f vs):=by
 refine Att.attach_callB hn hdf fun w s₀ s₁ mg mb fa a vs ns G Y hmg hobj hints hlen hbits hg=>?_;have KX:=hY w _ Y;obtain ⟨fd,hb,hF⟩:=F w mg fa _ KX G.T.g hmg;exact EE KX G.T.g G.T.b G.T.builtins G.T.nolimit hg hobj hints (dH hlen hn2) hr hF hb (fun H hO hS=>hsp w H a ns hlen hbits hS) fun H e s'=>hCX w H s₁ e s'
end L2
namespace PySem
open SeqAt MeetsSeq MeetsSeq2 MeetsSeq3 SeqRoads2
open AutoSeq1 (wpAny_loadPart')
def l8 (prog:aL) (w:bN) (A:bZ) (s:ar) (y x:af):Prop:=
 ∀ (E:af->ar->Prop) (Q:Bool->ar->Prop),Q true s->aW (bJ prog w) A (eqBool y x) Q E s
def RcIn (prog:aL) (w:bN) (A:bZ) (s:ar) (y x:af):Prop:=
 ∀ (E:af->ar->Prop) (Q:af->ar->Prop),Q (.bool true) s->aW (bJ prog w) A (sP .Eq y x) Q E s
section
variable {prog:aL} {w:bN} {A:bZ} {s:ar}
theorem l8.of_at {y x:af} (h:EqAt A s y x true):l8 prog w A s y x:=fun E Q q=>h prog w E Q q
theorem l8.self (v:af):l8 prog w A s v v:=l8.of_at (EqAt.same v)
theorem l8.refs {l b:aa} (h:RcIn prog w A s (.ref l) (.ref b)):l8 prog w A s (.ref l) (.ref b):=by
 by_cases e:l=b
 ·rw [e];exact l8.self _
 ·intro E Q q;unfold eqBool;refine dD (wpAny_ite_split (fun z=>?_) (fun _=>?_))
  ·exact absurd (by have z':=eq_of_beq z; injection z') e
  ·exact aq (h E _ (iW q))
theorem HM (l b:aa) (xs ys:Array af) (n m:Nat) (dd de:Option aa) (sl sm:Array (Option af)) (hsz:xs.size=ys.size):∀ k i:Nat,xs.size - i=k ->
  MeetsIn prog w (iX.«list.__eq__.loop» ⟨[.ref l,.ref b,sC i,sC 2],[]⟩) (fun A R s =>
   s.heap.get? l=some {cls:=.type "list",dict:=dd,data:=.seq xs n,slots:=sl}/\s.heap.get? b=some {cls:=.type "list",dict:=de,data:=.seq ys m,slots:=sm} /\
   (∀ j (h1:j < xs.size) (h2:j < ys.size),l8 prog w A.in1 s xs[j] ys[j])/\R (.ok (.ret (.bool true))) s):=by
 intro k
 induction k with
 | zero =>
  intro i hk A R s q;obtain ⟨hp,g,d,tk,os⟩:=s;obtain ⟨q1,q2,q3,q4⟩:=q;have a1:xs[((i:Nat):Int).toNat]?=none:=by simp; omega
  have a2:ys[((i:Nat):Int).toNat]?=none:=by simp; omega
  wp_walk using dU q1,dU q2
  rw [a1,a2]
  wp_walk using dU q1,dU q2
  show R (.ok (.ret (.bool (xs.size == ys.size)))) _;rw [hsz,beq_self_eq_true];exact q4
 | succ k ih =>
  intro i hk A R s q;obtain ⟨hp,g,d,tk,os⟩:=s;obtain ⟨q1,q2,q3,q4⟩:=q;have l1:i < xs.size:=by omega
  have l2:i < ys.size:=by omega
  have a1:xs[((i:Nat):Int).toNat]?=some xs[i]:=by simp [l1]
  have a2:ys[((i:Nat):Int).toNat]?=some ys[i]:=by simp [l2]
  have e1:((i:Int) + 1)=((i + 1:Nat):Int):=by push_cast; rfl
  wp_walk using dU q1,dU q2
  rw [a1,a2];refine aq (q3 i l1 l2 _ _ ?_)
  wp_walk
  rw [e1];refine ⟨plainId_quiet plain_eq_loop _,qU entry_eq_loop ?_⟩;rw [zD plain_eq_loop _];exact ih (i + 1) (by omega) A R _ ⟨q1,q2,q3,q4⟩
theorem HN (l b:aa) (xs ys:Array af) (n m:Nat) (dd de:Option aa) (sl sm:Array (Option af)) (hsz:xs.size=ys.size) :
  MeetsIn prog w (iX.«list.__eq__» ⟨[.ref l,.ref b],[]⟩) (fun A R s =>
   s.heap.get? l=some {cls:=.type "list",dict:=dd,data:=.seq xs n,slots:=sl}/\s.heap.get? b=some {cls:=.type "list",dict:=de,data:=.seq ys m,slots:=sm} /\
   (∀ j (h1:j < xs.size) (h2:j < ys.size),l8 prog w A.in1 s xs[j] ys[j])/\R (.ok (.ret (.bool true))) s):=by
 intro A R s q;obtain ⟨hp,g,d,tk,os⟩:=s;obtain ⟨q1,q2,q3,q4⟩:=q;have f1:=AutoSeq1.sub_list_list;have f2:¬ (xs.size != ys.size)=true:=by simp [hsz]
 wp_walk using dU q1,dU q2
 refine ⟨plainId_quiet plain_eq_loop _,qU entry_eq_loop ?_⟩;rw [zD plain_eq_loop _];exact HM l b xs ys n m dd de sl sm hsz _ 0 rfl A R _ ⟨q1,q2,q3,q4⟩
theorem RcIn.lists {l b:aa} {xs ys:Array af} (hl:s.heap.IsList l xs) (hb:s.heap.IsList b ys) (hsz:xs.size=ys.size) (hu:A.units < d8)
  (he:∀ j (h1:j < xs.size) (h2:j < ys.size),l8 prog w A.in1 s xs[j] ys[j]):RcIn prog w A s (.ref l) (.ref b):=fun E Q q=>by
 obtain ⟨⟨c1,dd,t1,sl⟩,o1,rfl,n,rfl⟩:=id hl;obtain ⟨⟨c2,de,t2,sm⟩,o2,rfl,m,rfl⟩:=id hb;refine zE (op:=.Eq) ⟨_,o1,rfl⟩ ⟨_,o2,rfl⟩ F.slot_list_eq (EO F.slot_list_eq ⟨_,o1,rfl⟩ F.entry_list_eq (F.args_list_eq_2 _ _) (HN l b xs ys n m dd de sl sm hsz) ⟨o1,o2,he,?_⟩) hu;exact ⟨fun z=>(nomatch z),q⟩
variable {K:Type} [DecidableEq K] {knd:KeyKind prog w K}
theorem pairs_at {es:List DictEntry} {kvs:List (K×af)} (h:Pairs knd es kvs):∀ {i:Nat} {e:DictEntry},es[i]?=some e->∃ kv,kvs[i]?=some kv/\knd.is kv.1 e.key=true/\e.val=kv.2:=by
 induction h with
 | nil =>
  intro i e q;simp at q
 | cons a b _ ih =>
  intro i e q
  cases i with
  | zero =>
   simp at q;subst q;exact ⟨_,rfl,a,b⟩
  | succ i =>
   obtain ⟨kv,z⟩:=ih (i:=i) (by simpa using q);exact ⟨kv,by simpa using z.1,z.2⟩
theorem ER {nm:String} {d b:aa} {kvs kws:List (K×af)} {Q:Bool->ar->Prop} {E:af->ar->Prop} (hd:(d == fj)=false) (hb:(b == fj)=false) (m1:s.heap.DictOf knd d kvs) (m2:s.heap.DictOf knd b kws)
  (hl:kvs.length=kws.length) (he:∀ kv∈kvs,∃ v',oM kws kv.1=some v'/\l8 prog w A s kv.2 v') (q:Q true s):aW (bJ prog w) A (uB nm d b) Q E s:=by
 obtain ⟨o1,es,ep,h1,x1,t1,k1,p1,n1⟩:=id m1;obtain ⟨o2,fs,fp,h2,x2,t2,k2,p2,n2⟩:=id m2;have z1:es.size=kvs.length:=by rw [<- p1.length,gs]
 have z2:fs.size=kws.length:=by rw [<- p2.length,gs]
 unfold uB;unfold Builtin.Dict.showsAll;rw [if_neg (by rw [hd]; exact cg),if_neg (by rw [hb]; exact cg)];refine aq (aP (aq (aP ?_)));refine aq (oN h1 t1 (aq (oN h2 t2 ?_)));rw [if_neg (by rw [z1,z2,hl]; simp)];refine aq (wpAny_dictEpoch h1 t1 (aq ?_));rw [Jx];simp only [Jy,Nat.sub_zero,ES,Nat.div_one];refine qj _ (fun rest r s'=>s'=s/\r.1=none/\∃ i,rest=List.range' i (es.size - i)/\i<=es.size) _ ?_ ?_ _ _ ⟨rfl,rfl,0,by simp,bH _⟩
 ·rintro x rest ⟨r1,r2⟩ s' ⟨rfl,e1,i,hr,hi⟩;have lt:i < es.size:=by
   rcases lK i es.size with z | z
   ·exact z
   ·rw [Nat.sub_eq_zero_of_le z] at hr;simp at hr
  obtain ⟨rfl,hrest⟩:x=i/\rest=List.range' (i + 1) (es.size - (i + 1)):=by
   rw [show es.size - i=(es.size - (i + 1)) + 1 by omega,List.range'_succ] at hr;injection hr with a1 a2;exact ⟨a1,a2⟩
  obtain ⟨kv,y1,y2,y3⟩:=pairs_at p1 (i:=x) (e:=es[x]) (by simp [lt]);obtain ⟨kk,y4,y5⟩:=k1 es[x] (Array.getElem_mem lt);have y6:kk=kv.1:=knd.inj _ _ _ y4 y2;subst y6;obtain ⟨v',g1,g2⟩:=he kv (bX y1);obtain ⟨o3,fs',fp',a1,_,a2,a3,hf⟩:=m2.mapOf;rw [h2] at a1
  cases a1;rw [t2] at a2
  cases a2;rw [<- hf kv.1,findBy_of_findIdx?] at g1;refine aq (oN h1 t1 ?_);rw [Array.getElem?_eq_getElem lt];dsimp only;refine aq (dD (aq ?_));rw [y5];refine wpAny_dictFind_of y2 h2 t2 k2 ?_
  cases hj:fs.findIdx? fun e=>knd.is kv.1 e.key with
  | none =>
   rw [hj] at g1
   cases g1
  | some j =>
   rw [hj] at g1;dsimp only at g1 |-;refine aq (oN h2 t2 ?_)
   cases hx:fs[j]? with
   | none =>
    simp [hx] at g1
   | some fe =>
    have g3:fe.val=v':=by simpa [hx] using g1
    dsimp only;refine dD ?_;rw [y3,g3];refine g2 _ _ ?_;rw [if_neg (by decide)];refine aq (wpAny_dictEpoch h1 t1 ?_);rw [if_neg (by simp)];exact aP ⟨rfl,rfl,x + 1,hrest,lt⟩
 ·rintro ⟨r1,r2⟩ s' ⟨rfl,e1,_⟩;have e1:r1=none:=e1;subst e1;exact aP q
theorem Cy (d b:aa) (hd:(d == fj)=false) (hb:(b == fj)=false) :
  MeetsIn prog w (iX.«dict.__eq__» ⟨[.ref d,.ref b],[]⟩) (fun A R s=>∃ kvs kws,s.heap.DictOf knd d kvs/\s.heap.DictOf knd b kws/\kvs.length=kws.length /\
   (∀ kv∈kvs,∃ v',oM kws kv.1=some v'/\l8 prog w A.in1 s kv.2 v')/\R (.ok (.ret (.bool true))) s):=
 .of_wp fun A R s h=>by
  obtain ⟨kvs,kws,m1,m2,hl,he,q⟩:=h;unfold iX.«dict.__eq__»;show aW _ _ (sT "__eq__" ⟨[.ref d,.ref b],[]⟩ >>= _) _ _ s;refine aq ?_;unfold sT;unfold Builtin.Dict.notOrdered;rw [if_neg (by decide)];refine aq (aP ?_);show aW _ _ (pure (Value.ref d,Value.ref b)) _ _ s;refine aP ?_;dsimp only;refine aq (wpAny_isInstance m2.typeIs isSubtype_dict_dict ?_);rw [if_neg (by decide)];refine aq (aP (aq (aP (aq (ER hd hb m1 m2 hl he ?_)))));exact aP ⟨_,rfl,q⟩
theorem RcIn.dicts {d b:aa} {kvs kws:List (K×af)} (hd:(d == fj)=false) (hb:(b == fj)=false) (m1:s.heap.DictOf knd d kvs) (m2:s.heap.DictOf knd b kws) (hl:kvs.length=kws.length) (hu:A.units < d8)
  (he:∀ kv∈kvs,∃ v',oM kws kv.1=some v'/\l8 prog w A.in1 s kv.2 v'):RcIn prog w A s (.ref d) (.ref b):=fun E Q q =>
 zE (op:=.Eq) m1.typeIs m2.typeIs F.slot_dict_eq (EO F.slot_dict_eq m1.typeIs F.entry_dict_eq (F.args_dict_eq_2 _ _) (Cy (knd:=knd) d b hd hb) ⟨kvs,kws,m1,m2,hl,he,⟨fun z=>(nomatch z),q⟩⟩) hu
end
end PySem
namespace L2
open PySem PySem.Spec PyProof.Rows PySem.SeqAt
def sc0:V->Prop
 | .int _=>True
 | .str _=>True
 | .bl _=>True
 | .non=>True
 | _=>False
def TEq (H:Hp):Nat->V->V->Prop
 | 0,x,y=>sc0 x/\x=y
 | n + 1,x,y=>(sc0 x/\x=y)\/(∃ p q xs ys,x=.ref p/\y=.ref q/\H p=some (.lst xs)/\H q=some (.lst ys)/\aI (TEq H n) xs ys) \/
   ∃ p q xs ys,x=.ref p/\y=.ref q/\H p=some (.tup xs)/\H q=some (.tup ys)/\aI (TEq H n) xs ys
def DEq (H:Hp):Nat->V->V->Prop
 | 0,x,y=>∃ n,n<=20/\TEq H n x y
 | n + 1,x,y=>(∃ n,n<=20/\TEq H n x y)\/(∃ p q xs ys,x=.ref p/\y=.ref q/\H p=some (.lst xs)/\H q=some (.lst ys)/\aI (DEq H n) xs ys) \/
   ∃ p q kvs kws,x=.ref p/\y=.ref q/\H p=some (.dK kvs)/\H q=some (.dK kws)/\aI (fun (a b:Key×V)=>a.1=b.1/\DEq H n a.2 b.2) kvs kws
section
variable {P:aL} {w:bN} {H:Hp} {s:ar}
theorem mI {R:V->V->Prop}:∀ {xs ys:List V} {us vs:List af},aI R xs ys->cX xs us->cX ys vs->us.length=vs.length/\∀ j (h1:j < us.length) (h2:j < vs.length),∃ x y,R x y/\RelV x us[j]/\RelV y vs[j]:=by
 intro xs ys us vs p
 induction p generalizing us vs with
 | nil =>
  intro a b
  cases a
  cases b;exact ⟨rfl,fun j h1=>absurd h1 (kX _)⟩
 | cons r rs ih =>
  intro a b
  cases a with
  | cons a as =>
  cases b with
  | cons b bs =>
  obtain ⟨e,z⟩:=ih as bs;refine ⟨by rw [aR,aR,e],fun j h1 h2=>?_⟩
  cases j with
  | zero=>exact ⟨_,_,r,a,b⟩
  | succ j=>exact z j (ik h1) (ik h2)
theorem Bj {A:bZ} {x:V} {u v:af} (h:sc0 x) (ru:RelV x u) (rv:RelV x v):EqAt A s u v true:=by
 cases x with
 | non=>cases ru; cases rv; exact EqAt.same _
 | bl b=>cases ru; cases rv; exact EqAt.same _
 | int i =>
  obtain ⟨t,rfl⟩:=ru;obtain ⟨t',rfl⟩:=rv;have z:=EqAt.int_int (A:=A) (s:=s) i t i t';rw [beq_self_eq_true] at z;exact z
 | str i =>
  obtain ⟨t,rfl⟩:=ru;obtain ⟨t',rfl⟩:=rv;have z:=EqAt.str_str (A:=A) (s:=s) i t i t';rw [beq_self_eq_true] at z;exact z
 | byt b=>exact h.elim
 | flt b=>exact h.elim
 | ref a=>exact h.elim
 | ty a=>exact h.elim
theorem e9 (ok:HOk P w H s.heap) {p:aa} {xs:List V} (h:H p=some (.lst xs)):∃ us:List af,cX xs us/\s.heap.IsList p us.toArray:=by
 obtain ⟨_,us,n,r,e⟩:=(show eE P w H s.heap p (.lst xs) from ok p _ h);exact ⟨us,r,_,e,rfl,n,rfl⟩
theorem fi (ok:HOk P w H s.heap) {p:aa} {xs:List V} (h:H p=some (.tup xs)):∃ us:List af,cX xs us/\s.heap.IsTuple p us.toArray:=by
 obtain ⟨_,us,r,o,e,c,n,d⟩:=(show eE P w H s.heap p (.tup xs) from ok p _ h);exact ⟨us,r,o,e,c,n,d⟩
theorem rB (n:Nat):((ig n).all fun _=>true)=true:=by simp
theorem yY (ok:HOk P w H s.heap) {R:V->V->Prop} {A:bZ} {p q:aa} {xs ys:List V} (hu:A.units < d8) (h1:H p=some (.lst xs)) (h2:H q=some (.lst ys)) (r:aI R xs ys)
  (he:∀ x y u v,R x y->RelV x u->RelV y v->EqAt A.in1 s u v true):RcAt A s (.ref p) (.ref q) true:=by
 obtain ⟨us,r1,i1⟩:=e9 ok h1;obtain ⟨vs,r2,i2⟩:=e9 ok h2;obtain ⟨e,z⟩:=mI r r1 r2;have k:=RcAt.lists (e:=fun _=>true) i1 i2 (by simpa using e) hu (fun j a b=>by
  obtain ⟨x,y,rr,rx,ry⟩:=z j (by simpa using a) (by simpa using b);simpa using he _ _ _ _ rr rx ry)
 rw [rB] at k;exact k
theorem Bm (ok:HOk P w H s.heap) {R:V->V->Prop} {A:bZ} {p q:aa} {xs ys:List V} (hu:A.units < d8) (h1:H p=some (.tup xs)) (h2:H q=some (.tup ys)) (r:aI R xs ys)
  (he:∀ x y u v,R x y->RelV x u->RelV y v->EqAt A.in1 s u v true):RcAt A s (.ref p) (.ref q) true:=by
 obtain ⟨us,r1,i1⟩:=fi ok h1;obtain ⟨vs,r2,i2⟩:=fi ok h2;obtain ⟨e,z⟩:=mI r r1 r2;have k:=RcAt.tuples (e:=fun _=>true) i1 i2 hu (fun j a b=>by
  obtain ⟨x,y,rr,rx,ry⟩:=z j (by simpa using a) (by simpa using b);simpa using he _ _ _ _ rr rx ry)
 rw [rB,KU,aB,aB,e,beq_self_eq_true] at k;exact k
theorem EqAt.of_rc {A:bZ} {l b:aa} (h:RcAt A s (.ref l) (.ref b) true):EqAt A s (.ref l) (.ref b) true:=by
 by_cases e:l=b
 ·rw [e];exact EqAt.same _
 ·exact EqAt.of_refs e h
theorem o9 (ok:HOk P w H s.heap):∀ {n:Nat} {A:bZ} {x y:V} {u v:af},A.units + n < d8->TEq H n x y->RelV x u->RelV y v->EqAt A s u v true
 | 0,A,x,y,u,v,hu,h,ru,rv=>by
  obtain ⟨h1,rfl⟩:=h;exact Bj h1 ru rv
 | n + 1,A,x,y,u,v,hu,h,ru,rv=>by
  have hin:A.in1.units + n < d8:=by
   show A.units + 1 + n < d8;omega
  rcases h with ⟨h1,rfl⟩ | ⟨p,q,xs,ys,rfl,rfl,h1,h2,r⟩ | ⟨p,q,xs,ys,rfl,rfl,h1,h2,r⟩
  ·exact Bj h1 ru rv
  ·cases ru
   cases rv;exact EqAt.of_rc (yY ok (by omega) h1 h2 r fun _ _ _ _ z a b=>o9 ok hin z a b)
  ·cases ru
   cases rv;exact EqAt.of_rc (Bm ok (by omega) h1 h2 r fun _ _ _ _ z a b=>o9 ok hin z a b)
theorem vc (ok:HOk P w H s.heap) {R:V->V->Prop} {A:bZ} {p q:aa} {xs ys:List V} (hu:A.units < d8) (h1:H p=some (.lst xs)) (h2:H q=some (.lst ys)) (r:aI R xs ys)
  (he:∀ x y u v,R x y->RelV x u->RelV y v->l8 P w A.in1 s u v):RcIn P w A s (.ref p) (.ref q):=by
 obtain ⟨us,r1,i1⟩:=e9 ok h1;obtain ⟨vs,r2,i2⟩:=e9 ok h2;obtain ⟨e,z⟩:=mI r r1 r2;exact RcIn.lists i1 i2 (by simpa using e) hu (fun j a b=>by
  obtain ⟨x,y,rr,rx,ry⟩:=z j (by simpa using a) (by simpa using b);simpa using he _ _ _ _ rr rx ry)
theorem HP {κ:Type} {R:κ×V->κ×V->Prop}:∀ {kvs kws:List (κ×V)} {us vs:List (κ×af)},aI R kvs kws->KV kvs us->KV kws vs->us.length=vs.length/\∀ (i:Nat) (q:κ×af),us[i]?=some q->∃ q' a b,vs[i]?=some q'/\R a b/\a.1=q.1/\b.1=q'.1/\RelV a.2 q.2/\RelV b.2 q'.2:=by
 intro kvs kws us vs p
 induction p generalizing us vs with
 | nil =>
  intro a b
  cases a
  cases b;exact ⟨rfl,fun i q h=>by simp at h⟩
 | cons r rs ih =>
  intro a b
  cases a with
  | cons a as =>
  cases b with
  | cons b bs =>
  obtain ⟨e,z⟩:=ih as bs;refine ⟨by rw [aR,aR,e],fun i q h=>?_⟩
  cases i with
  | zero =>
   simp at h;subst h;exact ⟨_,_,_,rfl,r,a.1,b.1,a.2,b.2⟩
  | succ i =>
   obtain ⟨q',x,y,h1,h2⟩:=z i q (by simpa using h);exact ⟨q',x,y,by simpa using h1,h2⟩
theorem vd (ok:HOk P w H s.heap) {R:V->V->Prop} {A:bZ} {p q:aa} {kvs kws:List (Key×V)} (hu:A.units < d8) (h1:H p=some (.dK kvs)) (h2:H q=some (.dK kws)) (r:aI (fun (a b:Key×V)=>a.1=b.1/\R a.2 b.2) kvs kws)
  (he:∀ x y u v,R x y->RelV x u->RelV y v->l8 P w A.in1 s u v):RcIn P w A s (.ref p) (.ref q):=by
 obtain ⟨_,n1,us,k1,m1⟩:=(show eE P w H s.heap p (.dK kvs) from ok p _ h1);obtain ⟨_,n2,vs,k2,m2⟩:=(show eE P w H s.heap q (.dK kws) from ok q _ h2);obtain ⟨e,z⟩:=HP r k1 k2;refine RcIn.dicts n1 n2 m1 m2 e hu fun kv hkv=>?_;obtain ⟨i,hi⟩:=dG hkv;obtain ⟨q',a,b,g1,⟨g2,g3⟩,g4,g5,g6,g7⟩:=z i kv hi;obtain ⟨_,_,_,_,_,_,_,_,nd⟩:=id m2;have g8:vs[i]?=some (kv.1,q'.2):=by
  rw [g1,<- g4,g2,g5]
 exact ⟨q'.2,valueAt_of_get nd g8,he _ _ _ _ g3 g6 g7⟩
theorem xT (ok:HOk P w H s.heap):∀ {n:Nat} {A:bZ} {x y:V} {u v:af},A.units + n + 20 < d8->DEq H n x y->RelV x u->RelV y v->l8 P w A s u v
 | 0,A,x,y,u,v,hu,h,ru,rv=>by
  obtain ⟨m,h0,h1⟩:=h;exact l8.of_at (o9 ok (by omega) h1 ru rv)
 | n + 1,A,x,y,u,v,hu,h,ru,rv=>by
  have hin:A.in1.units + n + 20 < d8:=by
   show A.units + 1 + n + 20 < d8;omega
  rcases h with ⟨m,h0,h1⟩ | ⟨p,q,xs,ys,rfl,rfl,h1,h2,r⟩ | ⟨p,q,kvs,kws,rfl,rfl,h1,h2,r⟩
  ·exact l8.of_at (o9 ok (by omega) h1 ru rv)
  ·cases ru
   cases rv;exact l8.refs (vc ok (by omega) h1 h2 r fun _ _ _ _ z a b=>xT ok hin z a b)
  ·cases ru
   cases rv;exact l8.refs (vd ok (by omega) h1 h2 r fun _ _ _ _ z a b=>xT ok hin z a b)
end
section
variable {X:Cx}
theorem op_eqD (hu:X.A.units + 50 < d8):OpR X (dZ .Eq) (fun x y H Q=>∃ n p q,n<=20/\x=.ref p/\y=.ref q/\DEq H n x y/\Q (.bl true) H):=by
 intro pins s σ H x y v u Q I rx ry h;obtain ⟨n,p,q,hn,rfl,rfl,d,k⟩:=h
 cases rx
 cases ry;have fin:EP X pins σ Q (.bool true) s:=⟨.bl true,H,I,rfl,k⟩;have hu1:X.A.units < d8:=by omega
 have main:RcIn X.prog X.w X.A s (.ref p) (.ref q):=by
  have hin:∀ m,m<=20->X.A.in1.units + m < d8:=fun m hm=>by
   show X.A.units + 1 + m < d8;omega
  have tq:∀ m,m<=20->TEq H m (.ref p) (.ref q)->RcIn X.prog X.w X.A s (.ref p) (.ref q):=fun m hm t=>by
   cases m with
   | zero=>exact t.1.elim
   | succ m =>
    rcases t with ⟨h1,_⟩ | ⟨p',q',xs,ys,e1,e2,h1,h2,r⟩ | ⟨p',q',xs,ys,e1,e2,h1,h2,r⟩
    ·exact h1.elim
    ·cases e1
     cases e2;intro E Q' k';exact yY I.hok hu1 h1 h2 r (fun _ _ _ _ z a b=>o9 I.hok (hin m (by omega)) z a b) X.prog X.w E Q' k'
    ·cases e1
     cases e2;intro E Q' k';exact Bm I.hok hu1 h1 h2 r (fun _ _ _ _ z a b=>o9 I.hok (hin m (by omega)) z a b) X.prog X.w E Q' k'
  cases n with
  | zero =>
   obtain ⟨m,hm,t⟩:=d;exact tq m hm t
  | succ n =>
   have hin2:X.A.in1.units + n + 20 < d8:=by
    show X.A.units + 1 + n + 20 < d8;omega
   rcases d with ⟨m,hm,t⟩ | ⟨p',q',xs,ys,e1,e2,h1,h2,r⟩ | ⟨p',q',kvs,kws,e1,e2,h1,h2,r⟩
   ·exact tq m hm t
   ·cases e1
    cases e2;exact vc I.hok hu1 h1 h2 r fun _ _ _ _ z a b=>xT I.hok hin2 z a b
   ·cases e1
    cases e2;exact vd I.hok hu1 h1 h2 r fun _ _ _ _ z a b=>xT I.hok hin2 z a b
 exact main _ _ fin
theorem KW (hu:X.A.units + 50 < d8):OpR X (dZ .NotEq) (fun x y H Q=>∃ n p q,n<=20/\x=.ref p/\y=.ref q/\TEq H n x y/\Q (.bl false) H):=by
 intro pins s σ H x y v u Q I rx ry h;obtain ⟨n,p,q,hn,rfl,rfl,d,k⟩:=h
 cases rx
 cases ry;have fin:EP X pins σ Q (.bool false) s:=⟨.bl false,H,I,rfl,k⟩;have hu1:X.A.units < d8:=by omega
 cases n with
 | zero=>exact d.1.elim
 | succ m =>
  have hin:X.A.in1.units + m < d8:=by
   show X.A.units + 1 + m < d8;omega
  rcases d with ⟨h1,_⟩ | ⟨p',q',xs,ys,e1,e2,h1,h2,r⟩ | ⟨p',q',xs,ys,e1,e2,h1,h2,r⟩
  ·exact h1.elim
  ·cases e1
   cases e2;obtain ⟨us,r1,i1⟩:=e9 I.hok h1;obtain ⟨vs,r2,i2⟩:=e9 I.hok h2;obtain ⟨e,z⟩:=mI r r1 r2;have k:=RcNeAt.lists (A:=X.A) (e:=fun _=>true) i1 i2 (by simpa using e) hu1 (fun j a b=>by
    obtain ⟨x,y,rr,rx,ry⟩:=z j (by simpa using a) (by simpa using b);simpa using o9 I.hok hin rr rx ry)
   rw [rB] at k;exact k X.prog X.w _ _ fin
  ·cases e1
   cases e2;obtain ⟨us,r1,i1⟩:=fi I.hok h1;obtain ⟨vs,r2,i2⟩:=fi I.hok h2;obtain ⟨e,z⟩:=mI r r1 r2;have k:=RcNeAt.tuples (A:=X.A) (e:=fun _=>true) i1 i2 hu1 (fun j a b=>by
    obtain ⟨x,y,rr,rx,ry⟩:=z j (by simpa using a) (by simpa using b);simpa using o9 I.hok hin rr rx ry)
   rw [rB,KU,aB,aB,e,beq_self_eq_true] at k;exact k X.prog X.w _ _ fin
theorem ET {A:bZ} {k:Nat} (hr:d5 k A):A.units + 50 < d8:=by
 have:=hr.un;omega
end
end L2
namespace PySem
open Sem (wp)
section
variable {prog:aL} {w:bN} {A:bZ} {E:af->ar->Prop} {s:ar}
end
section
variable {prog:aL} {w:bN} {A:bZ} {R:KG->ar->Prop} {I:aa} {fp wr:List aa} {n:Nat} {P:Nat->af->Prop} {St:Nat->cF->Prop} {G:cF->Prop}
end
section
variable {prog:aL} {w:bN} {A:bZ} {E:af->ar->Prop} {s:ar}
end
section
variable {prog:aL} {w:bN} {K:Type} [DecidableEq K] {knd:HeapKind prog w K} {A:bZ} {E:af->ar->Prop} {s:ar}
end
section
variable {prog:aL} {w:bN} {A:bZ} {E:af->ar->Prop} {s:ar}
end
end PySem
namespace HT
theorem Af:∀ a:List Int,lexLt a a=false
 | []=>rfl
 | x :: r=>by rw [kP,if_pos rfl]; exact Af r
theorem lx_trans:∀ {a b c:List Int},lexLt a b=true->lexLt b c=true->lexLt a c=true
 | [],[],_,h,_=>by cases h
 | [],_ :: _,[],_,h=>by cases h
 | [],_ :: _,_ :: _,_,_=>rfl
 | _ :: _,[],_,h,_=>by cases h
 | _ :: _,_ :: _,[],_,h=>by cases h
 | x :: a,y :: b,z :: c,h,k=>by
  rw [kP] at h k |-
  by_cases e:x=y
  ·subst e;rw [if_pos rfl] at h
   by_cases f:x=z
   ·subst f;rw [if_pos rfl] at k |-;exact lx_trans h k
   ·rw [if_neg f] at k |-;exact k
  ·rw [if_neg e] at h;have h:=of_decide_eq_true h
   by_cases f:y=z
   ·subst f;rw [if_neg e];exact decide_eq_true h
   ·rw [if_neg f] at k;have k:=of_decide_eq_true k;rw [if_neg (by omega)];exact decide_eq_true (by omega)
theorem rC:∀ {a b:List Int},lexLt a b=false->lexLt b a=false->a=b
 | [],[],_,_=>rfl
 | [],_ :: _,h,_=>by cases h
 | _ :: _,[],_,h=>by cases h
 | x :: a,y :: b,h,k=>by
  rw [kP] at h k
  by_cases e:x=y
  ·subst e;rw [if_pos rfl] at h k;rw [rC h k]
  ·rw [if_neg e] at h;rw [if_neg (fun z=>e z.symm)] at k;have h:=of_decide_eq_false h;have k:=of_decide_eq_false k;exact absurd (by omega) e
theorem lx_asym {a b:List Int} (h:lexLt a b=true):lexLt b a=false:=by
 cases e:lexLt b a with
 | false=>rfl
 | true =>
  have z:=lx_trans h e;rw [Af] at z
  cases z
theorem lx_of_not {a b:List Int} (h:lexLt a b=false) (n:a≠b):lexLt b a=true:=by
 cases e:lexLt b a with
 | true=>rfl
 | false=>exact absurd (rC h e) n
open PySem PyProof.Rows
open PySem.SeqAt
open PySem.AutoSeq1 (wpAny_loadPart')
open PySem.MeetsSeq PySem.MeetsSeq2 PySem.MeetsSeq3
theorem HQ (l b:aa) (xs ys:Array af) (n m:Nat) (dd de:Option aa) (sl sm:Array (Option af)) (ns ms:List Int) (hi:fv xs.toList ns) (hj:fv ys.toList ms) :
  Meets (iX.«tuple.__gt__» ⟨[.ref l,.ref b],[]⟩)
   (fun _ R s=>s.heap.get? l=some {cls:=.type "tuple",dict:=dd,data:=.seq xs n,slots:=sl}/\s.heap.get? b=some {cls:=.type "tuple",dict:=de,data:=.seq ys m,slots:=sm}/\R (.ok (.ret (.bool (lexLt ms ns)))) s):=
 .of_wp fun prog w A R s h=>by
  obtain ⟨hp,g,d,tk,os⟩:=s;obtain ⟨hl,hb,h⟩:=h;have f2:=lN;have z1:xs.size=ns.length:=by rw [<- hi.length]; simp
  have z2:ys.size=ms.length:=by rw [<- hj.length]; simp
  wp_walk using dU hl,dU hb,qj _ (fun rest b s'=>b.1=none/\s'=⟨hp,g,d,tk,os⟩/\∃ (vs ws:List af) (ns' ms':List Int),rest=vs.zip ws /\
   fv vs ns'/\fv ws ms'/\ns'.length + ys.size=ms'.length + xs.size/\R (.ok (.ret (.bool (lexLt ms' ns')))) ⟨hp,g,d,tk,os⟩) _
  case turn =>
   rintro ⟨y,x⟩ rest b s' ⟨hb',rfl,vs,ws,ns',ms',hz,hv,hw,hlen,hR⟩
   cases hv with
   | nil=>rw [Eo] at hz; cases hz
   | cons a t hv =>
    cases hw with
    | nil=>rw [Du] at hz; cases hz
    | cons c u hw =>
     rw [gI] at hz;injection hz with hyx hrest;injection hyx with hy hx;subst hy hx;rw [kP] at hR;simp only [aR] at hlen;obtain ⟨e,he,hiff⟩:=yL A.in1 ⟨hp,g,d,tk,os⟩ a t c u;refine aq (he prog w _ _ ?_)
     cases e with
     | true =>
      rw [if_pos (hiff.mp rfl).symm] at hR
      wp_walk
      exact ⟨rfl,rfl,_,_,_,_,hrest,hv,hw,by omega,hR⟩
     | false =>
      rw [if_neg (fun q=>absurd (hiff.mpr q.symm) cg)] at hR;have hri:∀ (E:af->ar->Prop) (Q:af->ar->Prop),Q (.bool (decide (a > c))) ⟨hp,g,d,tk,os⟩->aW (bJ prog w) A.in1 (sP .Gt (.int a t) (.int c u)) Q E ⟨hp,g,d,tk,os⟩:=fun E Q q =>
       (PyProof.Rows.gt_int q:aW (bJ prog w) A.in1 (dZ .Gt (.int a t) (.int c u)) Q E _)
      wp_walk using hri
      exact ⟨_,rfl,by simpa using hR⟩
  case fin =>
   rintro ⟨b1,b2⟩ s' ⟨hb',rfl,vs,ws,ns',ms',hz,hvi,hwi,hlen,hR⟩;simp only at hb';subst hb';have hv:lexLt ms' ns'=decide (ys.size < xs.size):=by
    cases hvi with
    | nil =>
     cases hwi with
     | nil =>
      simp only [cU] at hlen;rw [qv];exact (decide_eq_false (by omega)).symm
     | cons c u hw =>
      simp only [cU,aR] at hlen;rw [oX];exact (decide_eq_false (by omega)).symm
    | cons a t hv =>
     cases hwi with
     | nil =>
      simp only [cU,aR] at hlen;rw [oW];exact (decide_eq_true (by omega)).symm
     | cons c u hw =>
      rw [gI] at hz
      cases hz
   rw [hv] at hR
   wp_walk
   exact ⟨_,rfl,by simpa [pV] using hR⟩
  case h =>
   exact ⟨rfl,rfl,xs.toList,ys.toList,ns,ms,rfl,hi,hj,by omega,h⟩
theorem gt_tup {prog:aL} {w:bN} {A:bZ} {E:af->ar->Prop} {s:ar} {l b:aa} {xs ys:Array af} {ns ms:List Int} {Q:af->ar->Prop} (hl:sh s.heap l xs) (hb:sh s.heap b ys) (hi:fv xs.toList ns) (hj:fv ys.toList ms)
  (hu:A.units < d8) (h:Q (.bool (lexLt ms ns)) s):aW (bJ prog w) A (dZ .Gt (.ref l) (.ref b)) Q E s:=by
 obtain ⟨⟨c1,dd,t1,sl⟩,o1,rfl,n,rfl⟩:=id hl;obtain ⟨⟨c2,de,t2,sm⟩,o2,rfl,m,rfl⟩:=id hb;exact qG (op:=.Gt) ⟨_,o1,rfl⟩ ⟨_,o2,rfl⟩ yv xU (wL _ _) (HQ l b xs ys n m dd de sl sm ns ms hi hj)
  ⟨o1,o2,show Value.bool (lexLt ms ns)≠Value.notImplemented/\Q (.bool (lexLt ms ns)) s from ⟨(fun x=>nomatch x),h⟩⟩ hu
end HT
namespace L2
open PySem PySem.Spec PyProof.Rows
theorem tU:∀ {ns ms:List Int},ns.map V.int=ms.map V.int->ns=ms
 | [],[],_=>rfl
 | [],_ :: _,h=>by cases h
 | _ :: _,[],h=>by cases h
 | x :: a,y :: b,h=>by
  injection h with h1 h2;injection h1 with h1;rw [h1,tU h2]
section
variable {X:Cx}
theorem wM {P:aL} {w:bN} {H:Hp} {s:ar} (ok:HOk P w H s.heap) {A:bZ} {a b:aa} {ns ms:List Int} (hu:A.units < d8) (ha:H a=some (.tup (ns.map V.int))) (hb:H b=some (.tup (ms.map V.int))) :
  SeqAt.EqAt A s (.ref a) (.ref b) (decide (ns=ms)):=by
 by_cases e:a=b
 ·subst e;rw [ha] at hb;injection hb with hb;injection hb with hb;rw [tU hb,decide_eq_true rfl];exact SeqAt.EqAt.same _
 ·obtain ⟨us,r1,i1⟩:=fi ok ha;obtain ⟨vs,r2,i2⟩:=fi ok hb;have k1:fv us ns:=intsAre_of r1;have k2:fv vs ms:=intsAre_of r2;have at_:∀ {us:List af} {ns:List Int},fv us ns->∀ (j:Nat) (h:j < us.length),∃ (z:Int) (t:Tok),us[j]=.int z t/\ns[j]?=some z:=by
   intro us ns k
   induction k with
   | nil=>intro j h; exact absurd h (kX _)
   | cons z t _ ih =>
    intro j h
    cases j with
    | zero=>exact ⟨z,t,rfl,rfl⟩
    | succ j=>exact ih j (ik h)
  have rc:=SeqAt.RcAt.tuples (A:=A) (e:=fun j=>decide (ns[j]?=ms[j]?)) i1 i2 hu fun j h1 h2=>by
   obtain ⟨x,t,e1,e2⟩:=at_ k1 j (by simpa using h1);obtain ⟨y,t',e3,e4⟩:=at_ k2 j (by simpa using h2);rw [e2,e4];have z:=yq (A:=A.in1) (s:=s) x t y t';have q:(x == y)=decide (some x=some y):=by
    by_cases e:x=y
    ·subst e; simp
    ·have e':¬ some x=some y:=fun q=>e (cQ q);rw [decide_eq_false e',beq_eq_false_iff_ne.mpr e]
   rw [q] at z;simpa [e1,e3] using z
  have fin:((ig (min us.toArray.size vs.toArray.size)).all (fun j=>decide (ns[j]?=ms[j]?)) && us.toArray.size == vs.toArray.size)=decide (ns=ms):=by
   have l1:us.toArray.size=ns.length:=by rw [aB]; exact k1.length
   have l2:vs.toArray.size=ms.length:=by rw [aB]; exact k2.length
   rw [l1,l2]
   by_cases c:ns=ms
   ·subst c;simp
   ·rw [decide_eq_false c,Bool.and_eq_false_iff]
    by_cases l:ns.length=ms.length
    ·left
     rw [List.all_eq_false];refine uC fun no=>c (jN fun j=>?_)
     by_cases hj:j < ns.length
     ·refine uC fun ne=>no ⟨j,iT.mpr (by omega),?_⟩;rw [decide_eq_false ne];simp
     ·rw [cT (by omega),cT (by omega)]
    ·right
     exact beq_eq_false_iff_ne.mpr l
  rw [fin] at rc;exact SeqAt.EqAt.of_refs e rc
open Classical in
def HR:V->List V->Hp->VK->Prop:=fun x vs H Q=>∃ l xs i y,x=.ref l/\vs=[.int (i:Nat),y]/\H l=some (.lst xs)/\i<=xs.length/\xs.length < au/\Q .non (upd H l (.lst (xs.take i++y :: xs.drop i)))
theorem Cz:MtM X "list.insert" HR:=by
 intro pins s σ H x vs v us Q I rx rv h;obtain ⟨l,xs,i,y,rfl,rfl,hH,hi,hz,q⟩:=h
 cases rx;obtain ⟨u,w',rfl,ru,rw'⟩:=rv.two;obtain ⟨t,rfl⟩:=ru;obtain ⟨z,its,n,r,hl,e⟩:=I.lstM hH;have hz1:its.toArray.size<=au:=by rw [aB]; omega
 generalize hx:((i:Nat):Int)=x;have fit:r6 x=true:=by
  have s63:au=16777216:=oJ;exact fitsIndex_both (by omega) (by omega)
 have nfit:¬ (!r6 x)=true:=by rw [fit]; exact cg
 refine qI F.slot_list_insert ⟨_,e,rfl⟩ F.entry_list_insert (F.args_list_insert_3 _ _ _) (MT l its.toArray n x t w' nfit hz1) ⟨e,?_⟩;refine ⟨.non,_,I.lset (its':=its.take i++w' :: its.drop i) hH e ?_ ((r.take i).append (.cons rw' (r.drop i))) ?_,rfl,q⟩
 ·have k:(if x < 0 then (x + (its.toArray.size:Int)).toNat else min x.toNat its.toArray.size)=i:=by
   rw [if_neg (by omega),aB];omega
  show (its.toArray.extract 0 (if x < 0 then (x + (its.toArray.size:Int)).toNat else min x.toNat its.toArray.size)).push w'++its.toArray.extract (if x < 0 then (x + (its.toArray.size:Int)).toNat else min x.toNat its.toArray.size)=_;rw [k];apply Array.toList_inj.mp;simp [List.extract_eq_take_drop];exact oO (by rw [cN]; exact aE _)
 ·rw [ax,aR,aT,cN];omega
end
section
variable {X:Cx} {pins:List (aa×Obj)} {σ:St} {H:Hp} {s:ar} {d:aa}
theorem Inv.swap {o o':HO} (I:Inv X pins σ H s) (e:H d=some o) (nt:∀ xs,o≠.tup xs) (nb:∀ ps,o≠.tbl ps) (nw:∀ a,o≠.own a) (nf:∀ ob u,X.H₀ d≠some (.frz ob u)) (ok:eE X.prog X.w (upd H d o') s.heap d o'):Inv X pins σ (upd H d o') s:=by
 have no:∀ b,H b=none->upd H d o' b=none:=fun b z=>by
  rw [aK (aG e z).symm];exact z
 have tp:∀ b xs,H b=some (.tup xs)->upd H d o' b=some (.tup xs):=fun b xs z=>by
  rw [aK (mr z e (fun q=>nt xs q.symm))];exact z
 have ow:∀ b a,H b=some (.own a)->upd H d o' b=some (.own a):=fun b a z=>by
  rw [aK (mr z e (fun q=>nw a q.symm))];exact z
 refine ⟨I.ok,I.os,I.bare,⟨I.base.keep,I.base.slot,fun b ob q n hx=>no b (I.base.free b ob q n hx),I.base.there,fun b xs q=>tp b xs (I.base.tups b xs q),fun b ob u q=>?_,fun b ps q=>?_⟩,I.loc,I.cell,no _ I.free,fun x c q=>no c (I.freeC x c q),fun p hp=>?_,fun b u q=>?_,I.len⟩
 ·have z:=I.base.frzs b ob u q;have nd:b≠d:=fun y=>nf ob u (by rw [<- y]; exact q);rw [aK nd];exact z
 ·obtain ⟨more,z⟩:=I.base.tbls b ps q;refine ⟨more,?_⟩;rw [aK (mr z e (fun y=>nb _ y.symm))];exact z
 ·obtain ⟨h1,h2,h3⟩:=I.pin p hp;exact ⟨h1,no _ h2,h3⟩
 ·by_cases z:b=d
  ·subst z;rw [ag] at q
   cases q;exact ok
  ·rw [aK z] at q;exact (I.hok b u q).stay (fun c v _ y=>y) (fun c y=>ow c b y) tp
theorem Inv.freeze {kvs:List (Key×V)} (I:Inv X pins σ H s) (e:H d=some (.dK kvs)) (nf:∀ ob u,X.H₀ d≠some (.frz ob u)):∃ od,s.heap.get? d=some od/\Inv X pins σ (upd H d (.frz od (.dK kvs))) s:=by
 obtain ⟨h1,h2,vs,r,ob,es,ep,g1,g2⟩:=(show eE X.prog X.w H s.heap d (.dK kvs) from I.hok d _ e);exact ⟨ob,g1,I.swap e (fun xs z=>by cases z) (fun ps z=>by cases z) (fun a z=>by cases z) nf ⟨g1,h1,h2,vs,r,ob,es,ep,g1,g2⟩⟩
theorem Inv.thaw {kvs:List (Key×V)} {od:Obj} (I:Inv X pins σ H s) (e:H d=some (.frz od (.dK kvs))) (nf:∀ ob u,X.H₀ d≠some (.frz ob u)):Inv X pins σ (upd H d (.dK kvs)) s:=by
 obtain ⟨_,h1⟩:=(show eE X.prog X.w H s.heap d (.frz od (.dK kvs)) from I.hok d _ e);exact I.swap e (fun xs z=>by cases z) (fun ps z=>by cases z) (fun a z=>by cases z) nf h1
end
def Iti (d:aa) (od:Obj) (kvs:List (Key×V)):It:=
 ⟨fun i H=>H d=some (.frz od (.dK kvs))/\i < kvs.length,fun i H x H'=>∃ t kv,x=.ref t/\H t=none/\kvs[i]?=some kv/\H'=upd H t (.tup [kV kv.1,kv.2]),fun i H=>H d=some (.frz od (.dK kvs))/\kvs.length<=i⟩
theorem KV.at_ {kvs:List (Key×V)} {vs:List (Key×af)} (r:KV kvs vs):∀ {i:Nat} {kv:Key×V},kvs[i]?=some kv->∃ u,vs[i]?=some (kv.1,u)/\RelV kv.2 u:=by
 induction r with
 | nil=>intro i kv h; simp at h
 | cons a _ ih =>
  intro i kv h
  cases i with
  | zero =>
   simp at h;subst h;exact ⟨_,by rw [List.getElem?_cons_zero,a.1],a.2⟩
  | succ i =>
   obtain ⟨u,h1,h2⟩:=ih (by simpa using h);exact ⟨u,by simpa using h1,h2⟩
theorem KY {P:aL} {w:bN} {k:Key} {u:af} (h:(fK P w).is k u=true):RelV (kV k) u:=by
 rcases gx h with ⟨i,t,rfl,rfl⟩ | ⟨x,t,rfl,rfl⟩
 ·exact ⟨t,rfl⟩
 ·exact ⟨t,rfl⟩
theorem sU:entryFor table "dict_itemiterator.__iter__"=some iX.«dict_keyiterator.__iter__»:=
 entryFor_alias (id':="dict_keyiterator.__iter__") (by kernel_rfl) rfl (by decide +kernel) (by kernel_rfl)
section
variable {P:aL} {w:bN} {K:ae}
def HS (o:Obj):Nat:=match o.data with | .dict _ ep=>ep | _=>0
theorem Ag {X:Cx} {pins:List (aa×Obj)} {σ:St} {H:Hp} {s:ar} {d:aa} {od:Obj} {kvs:List (Key×V)} (I:Inv X pins σ H s) (e:H d=some (.frz od (.dK kvs))):∃ vs,KV kvs vs/\s.heap.DictAt (fK X.prog X.w) d vs (HS od):=by
 obtain ⟨g0,h1,h2,vs,r,ob,es,ep,g1,g2,g3,g4⟩:=(show eE X.prog X.w H s.heap d (.frz od (.dK kvs)) from I.hok d _ e);rw [g0] at g1
 cases g1;have ee:HS od=ep:=by
  unfold HS;rw [g3]
 rw [ee];exact ⟨vs,r,od,es,g0,g2,g3,g4⟩
theorem Ah {elts:List cZ} {x1} {pos:Pos} (d it:aa) (od:Obj) (kvs:List (Key×V)) (hne:d≠it):Cf P w K (.Tuple elts x1 pos) (Iti d od kvs) [it] it (fun i h=>∃ ok ov,IsItemIter h it d i kvs.length (HS od) ok ov) where
 mem:=by simp
 obj:=fun i h st b hb=>by
  have e:b=it:=by simpa using hb
  subst e;obtain ⟨ok,ov,e⟩:=st;exact ⟨_,e,fun v z=>by cases z⟩
 keep:=fun i h h' ⟨ok,ov,st⟩ k=>⟨ok,ov,k it (by simp) _ st⟩
 item:=by
  intro X hP hw hK hc i pins s σ H E I hf st hg;subst hP hw hK;obtain ⟨ok,ov,st⟩:=st;obtain ⟨hd,hi⟩:=hg;obtain ⟨vs,r,da⟩:=Ag I hd;have hl:=r.length;have hkv:kvs[i]?=some kvs[i]:=aj hi;obtain ⟨u,hu,ru⟩:=r.at_ hkv;obtain ⟨f0,f1,f2,f3,f4,f5⟩:=hf it (by simp);rw [hl] at st;refine wpAny_pyNext_items_item st da hu fun key h' hk hit' ht' hz' kp=>?_;have I1:Inv X pins σ H {s with heap:=h'}:=I.turned (t':=s.toks) (fun b o hb e=>kp b o hb e) f0 f1 f3 f4 f5;refine ⟨_,rfl,wpAny_letOwnedTupleGo_items hit' fun h2 hit2 sb=>?_⟩;have I2:Inv X pins σ H {s with heap:=h2}:=I1.turned (t':=s.toks) (fun b o hb e=>sb.extBut b o hb e) f0 f1 f3 f4 f5;have fr:H s.heap.objs.size=none:=I.hok.fresh (aE _);have nit:s.heap.objs.size≠it:=(aN (aM st)).symm;have e2:h2.get? s.heap.objs.size=some {cls:=.type "tuple",data:=.seq #[key,u]}:=sb.extBut _ _ nit ht';have I3:Inv X pins σ (upd H s.heap.objs.size (.tup [kV kvs[i].1,kvs[i].2])) {s with heap:=h2}:=by
   have kall:∀ b v,s.heap.get? b=some v->b≠it->h2.get? b=some v:=fun b v q n=>sb.extBut b v n (kp b v n q);exact ⟨I2.ok,I2.os,I2.bare,⟨I2.base.keep,I2.base.slot,fun b ob q n hx=>by
     have z:=I2.base.free b ob q n hx
     by_cases y:b=s.heap.objs.size
     ·exfalso;have lt:b < s.heap.objs.size:=bK (aM q) I.sz;rw [y] at lt;exact absurd lt (hU _)
     ·rw [aK y];exact z,I2.base.there,fun b xs q=>by
     rw [aK (aG (I2.base.tups b xs q) fr)];exact I2.base.tups b xs q,fun b ob v q=>by
     rw [aK (aG (I2.base.frzs b ob v q) fr)];exact I2.base.frzs b ob v q,fun b ps q=>by
     obtain ⟨m,z⟩:=I2.base.tbls b ps q;exact ⟨m,by rw [aK (aG z fr)]; exact z⟩⟩,I2.loc,I2.cell,by
     rw [aK (aN I.lt)];exact I2.free,fun x c q=>by
     obtain ⟨v,y⟩:=I.cell x c q;rw [aK (aN y.lt)];exact I2.freeC x c q,fun p hp=>by
     obtain ⟨h1,h2',h3⟩:=I2.pin p hp;obtain ⟨g1,_⟩:=I.pin p hp;refine ⟨h1,?_,h3⟩;rw [aK (aN (aM g1))];exact h2',fun b v q=>by
     by_cases y:b=s.heap.objs.size
     ·subst y;rw [ag] at q
      cases q;exact ⟨(by show 2<=au; decide),[key,u],.cons (KY hk) (.cons ru .nil),_,e2,rfl,0,rfl⟩
     ·rw [aK y] at q;exact (I2.hok b v q).stay (fun c v' _ z=>z) (fun c z=>by rw [aK (aG z fr)]; exact z) fun c xs z=>by rw [aK (aG z fr)]; exact z,I2.len⟩
  refine ⟨.ref s.heap.objs.size,_,I3,rfl,⟨_,_,rfl,fr,hkv,rfl⟩,⟨_,_,by rw [hl]; exact hit2⟩,fun b hb=>?_⟩;have e:b=it:=by simpa using hb
  subst e;rw [aK (fV nit)];exact f0
 done:=by
  intro X hP hw hK hc i pins s σ H E I hf st hg;subst hP hw hK;obtain ⟨ok,ov,st⟩:=st;obtain ⟨hd,hi⟩:=hg;obtain ⟨vs,r,da⟩:=Ag I hd;have hl:=r.length;obtain ⟨f0,f1,f2,f3,f4,f5⟩:=hf it (by simp);rw [hl] at st;exact wpAny_pyNext_items_end (I.ok.hd hc) st da (cT (by omega)) fun h' eb=>⟨rfl,I.turned (t':=s.toks) (fun b o hb e=>eb b o hb e) f0 f1 f3 f4 f5⟩
 self:=fun A i s Q E ⟨ok,ov,st⟩ h=>by
  have ty:s.TypeIs (.ref it) "dict_itemiterator":=⟨_,st,rfl⟩;refine vT ty F.slot_dict_itemiterator_iter (qm F.slot_dict_itemiterator_iter ty sU ?_ (F.args_dict_itemiterator_iter_1 _));show aW _ _ (ret (.ref it)) _ _ s;exact aP ⟨_,rfl,"dict_itemiterator",_,ty,F.slot_dict_itemiterator_next.lookup,h⟩
end
section
variable {X:Cx} {o:cZ} {to:TE} {apos cpos:Pos} {elts:List cZ} {x1:Nat} {pos:Pos}
def KZ (X:Cx) (to:TE):TI:=fun σ H R=>to σ H fun x H1=>∃ d kvs,x=.ref d/\H1 d=some (.dK kvs)/\(∀ ob u,X.H₀ d≠some (.frz ob u))/\∀ od,R (Iti d od kvs) (upd H1 d (.frz od (.dK kvs)))
theorem EU (ho:PE X o to) (hbase:lC o "items" X.env (fy o X.env)=fy o X.env:=by rfl) (hline:(apos.endLine == cpos.line)=true:=by rfl):PI X (.Tuple elts x1 pos) (.Call (.Attribute o "items" apos) [] [] cpos) (KZ X to):=by
 intro pins s σ H R I h;refine Dw hbase hline (thn (ho pins s σ H _ I h) fun v s1 ⟨x,H1,I1,r1,d,kvs,ex,hd,nf,q⟩=>?_);subst ex
 cases r1;obtain ⟨hz,n1,ws,k1,m1⟩:=(show eE X.prog X.w H1 s1.heap d (.dK kvs) from I1.hok d _ hd);obtain ⟨ob,_,_,g1,g2,_⟩:=id m1;refine ⟨"dict","dict.items",PySem.F.plainAttrs_dict,wN,PySem.F.type_dict_items,m1.typeIs,fun a e=>?_,oC rfl (A9 ?_)⟩
 ·cases e;exact ⟨ob,g1,g2.2.1⟩
 refine EO wN m1.typeIs PySem.F.entry_dict_items (PySem.F.args_dict_items_1 _) (meets_dict_items (fK X.prog X.w) d n1) ⟨⟨ws,m1⟩,?_⟩;have I2:Inv X pins σ H1 {s1 with heap:=s1.heap.push {cls:=.type "dict_items",data:=.fields #[.ref d]}}:=I1.kept (t':=s1.toks) fun b ob q=>aJ _ q;obtain ⟨od,g3,I3⟩:=I2.freeze hd nf;obtain ⟨vs,r,da⟩:=Ag I3 (ag:upd H1 d (.frz od (.dK kvs)) d=_);refine wpAny_pyIter_items ⟨_,cz _ rfl,rfl,rfl⟩ da ?_;have lt:=aM g3;refine ⟨_,[_],_,_,_,rfl,I3.kept (t':=s1.toks) fun b ob q=>aJ _ q,Ah d _ od kvs (aN lt),⟨.none,.none,?_⟩,fun b hb=>?_,q od⟩
 ·rw [r.length];exact cz _ rfl
 ·have e:b=_:=aH.mp hb;subst e;exact I3.fpOk (aE _) (I3.hok.fresh (aE _))
end
theorem CA {d:aa} {od:Obj} {kvs:List (Key×V)} {g:TG} {tb:TS} {D:kL} {σ:St} {H:Hp} (Pv:Nat->St->Hp->Prop) (h0:Pv 0 σ H) (hl:∀ i σ H,i<=kvs.length->Pv i σ H->H d=some (.frz od (.dK kvs)))
  (hs:∀ i kv t σ H,kvs[i]?=some kv->Pv i σ H->H t=none->g (.ref t) σ (upd H t (.tup [kV kv.1,kv.2])) fun σ2 H2=>tb {D with nx:=Pv (i + 1),ct:=Pv (i + 1),bk:=D.nx} σ2 H2) (hd:∀ σ H,Pv kvs.length σ H->D.nx σ H) :
  ∃ W:Nat->Nat->St->Hp->Prop,(∃ m,W 0 m σ H)/\∀ i m σ H,W i m σ H ->
   ((Iti d od kvs).stop i H/\D.nx σ H)\/((Iti d od kvs).go i H/\∃ N:St->Hp->Prop,(∀ σ' H',N σ' H'->∃ m',m' < m/\W (i + 1) m' σ' H')/\∀ x H',(Iti d od kvs).yld i H x H'->g x σ H' fun σ2 H2=>tb {D with nx:=N,ct:=N,bk:=D.nx} σ2 H2):=by
 refine ⟨fun i m σ H=>m=kvs.length - i/\i<=kvs.length/\Pv i σ H,⟨kvs.length,by simp,bH _,h0⟩,?_⟩;rintro i m σ H ⟨rfl,hi,p⟩;have q:=hl i σ H hi p
 by_cases lt:i < kvs.length
 ·refine .inr ⟨⟨q,lt⟩,Pv (i + 1),fun σ' H' p'=>⟨kvs.length - (i + 1),by omega,rfl,lt,p'⟩,fun x H' y=>?_⟩;obtain ⟨t,kv,rfl,ht,hk,rfl⟩:=y;exact hs i kv t σ H hk p ht
 ·have e:i=kvs.length:=by omega
  subst e;exact .inl ⟨⟨q,aE _⟩,hd σ H p⟩
def Jz (X:Cx) (D:kL):kL where
 nx:=fun σ H=>∃ d od kvs,H d=some (.frz od (.dK kvs))/\(∀ ob u,X.H₀ d≠some (.frz ob u))/\D.nx σ (upd H d (.dK kvs))
 rt:=D.rt
 bk:=D.bk
 ct:=D.ct
theorem HU {X:Cx} {st:dJ} {t:TS} (h:PS X st t):PS X st (fun D σ H=>t (Jz X D) σ H):=by
 intro pins s σ H D I q;refine thn (h pins s σ H (Jz X D) I q) fun fl s1 z=>?_
 cases fl with
 | next =>
  obtain ⟨σ',H',I',d,od,kvs,e,nf,y⟩:=z;exact ⟨σ',_,I'.thaw e nf,y⟩
 | brk=>exact z
 | cont=>exact z
 | ret u=>exact z
end L2
namespace L2
open PySem PySem.Spec PyProof.Rows PySem.SeqAt
def BSc (x y:V) (b:Bool):Prop:=(∃ i j:Int,x=.int i/\y=.int j/\b=decide (i=j))\/∃ i j:Str,x=.str i/\y=.str j/\b=decide (i=j)
theorem BSc.self {x:V} {b:Bool} (h:BSc x x b):b=true:=by
 rcases h with ⟨i,j,e1,e2,rfl⟩ | ⟨i,j,e1,e2,rfl⟩
 ·rw [e1] at e2
  cases e2;exact decide_eq_true rfl
 ·rw [e1] at e2
  cases e2;exact decide_eq_true rfl
section
variable {P:aL} {w:bN} {H:Hp} {s:ar}
theorem K1 {A:bZ} {x y:V} {u v:af} {b:Bool} (h:BSc x y b) (ru:RelV x u) (rv:RelV y v):EqAt A s u v b:=by
 rcases h with ⟨i,j,rfl,rfl,rfl⟩ | ⟨i,j,rfl,rfl,rfl⟩
 ·obtain ⟨t,rfl⟩:=(show ∃ t,u=Value.int i t from ru);obtain ⟨t',rfl⟩:=(show ∃ t',v=Value.int j t' from rv);have z:=EqAt.int_int (A:=A) (s:=s) i t j t';have e:(i == j)=decide (i=j):=by
   by_cases c:i=j
   ·rw [decide_eq_true c,beq_iff_eq.mpr c]
   ·rw [decide_eq_false c,beq_eq_false_iff_ne.mpr c]
  rw [e] at z;exact z
 ·obtain ⟨t,rfl⟩:=(show ∃ t,u=Value.str i t from ru);obtain ⟨t',rfl⟩:=(show ∃ t',v=Value.str j t' from rv);have z:=EqAt.str_str (A:=A) (s:=s) i t j t';have e:(i == j)=decide (i=j):=by
   by_cases c:i=j
   ·rw [decide_eq_true c,beq_iff_eq.mpr c]
   ·rw [decide_eq_false c,beq_eq_false_iff_ne.mpr c]
  rw [e] at z;exact z
end
section
variable {X:Cx}
end
end L2
namespace L2
open PySem PySem.Spec PyProof.Rows
section
variable {prog:aL} {w:bN} {A:bZ} {E:af->ar->Prop} {s:ar}
end
section
variable {X:Cx}
end
structure vU (K:ae) (C:aa):Prop where
 ga:aV K (.ref C) "__getattribute__"=some (some (.builtin "BaseException.__getattribute__"))
 gh:aV K (.ref C) "__getattr__"=some none
 cl:aV K (.ref C) "__class__"=some (some (.builtin "object.__class__"))
 cn:A5 K (.builtin "object.__class__") "__get__"=some (some (.builtin "getset_descriptor.__get__"))
 ck:Dp K (.builtin "object.__class__")=some true
 ob:vM K C (.type "object")=some true
 be:vM K C (.type "BaseException")=some true
theorem Ai:Manifest.canonical "BaseException.__getattribute__"="object.__getattribute__":=by decide +kernel
section
variable {prog:aL} {w:bN} {A:bZ} {E:af->ar->Prop} {s:ar} {K:ae} {x C:aa} {ox:Obj}
theorem EV {f:aa} {name:Str} {pl:Sem Bool} {Q:af×List af->ar->Prop} (X:K.In s.heap) (I:uS s.heap x ox C none) (c:vU K C) (hf:aV K (.ref C) name=some (some (.ref f))) (ht:Ek K (.ref f)=some (.type "function"))
  (h:Q (.ref f,[.ref x]) s):aW (bJ prog w) A (m9 (.ref x) name pl) Q E s:=by
 unfold m9 specialOf;refine aq (aq (I.type.here ((jZ X c.ga).here ?_)));dsimp only;rw [Ai,if_neg (by decide)];refine aq (aq (I.type.here ((jZ X c.gh).here ?_)));refine aq (aq (I.type.here ((jZ X hf).here (aq ((PySem.W.looks_typeIn X ht).here ?_)))));rw [if_neg (by decide +kernel)];refine aq (wpAny_loadPart I.at_ ?_);have hd:=I.dict
 cases e:ox.dict with
 | none=>exact aq (Ad (aP h))
 | some dx=>rw [e] at hd; exact hd.elim
end
def XOk (a C:aa) (h:cF):Prop:=∃ ob,h.get? a=some ob/\ob.cls=.ref C/\ob.dict=none/\EW ob=true
def XO (a C:aa):HO:=.ext (XOk a C)
theorem XOk.obj {P:aL} {w:bN} {H:Hp} {h:cF} {a C:aa} (x:XOk a C h):eE P w H h a (XO a C):=by
 obtain ⟨ob,e,r⟩:=x;refine ⟨⟨ob,e,r⟩,⟨ob,e⟩,fun h1 h2 y k=>?_⟩;obtain ⟨o,e1,r1⟩:=y;exact ⟨o,k o e1,r1⟩
theorem XOk.inst {h:cF} {a C:aa} (x:XOk a C h):∃ ox,uS h a ox C none:=by
 obtain ⟨ob,e,c,d,n⟩:=x;exact ⟨ob,e,c,n,by rw [d]; trivial⟩
theorem K2 {P:aL} {w:bN} {H:Hp} {h:cF} {a C:aa} (ok:HOk P w H h) (e:H a=some (XO a C)):XOk a C h:=(ok a _ e).1
section
variable {X:Cx} {pins:List (aa×Obj)} {σ:St} {H:Hp} {s:ar}
end
section
variable {P:aL} {w:bN} {H:Hp} {h h':cF} {a:aa} {o:HO} {fs ex:List aa}
end
section
variable {X:Cx} {pins:List (aa×Obj)} {σ:St} {H:Hp} {s:ar} {C:aa} {x:Str} {p pos:Pos} {e:cZ} {es:List cZ} {t:TA}
end
section
variable {X:Cx} {CX:CXT} {k:Nat} {f C:aa} {fd:cw} {ps:List Str} {sp:Sp} {E:XK} {m:Str} {pos apos:Pos} {o:cZ} {ta:TE}
end
section
variable {X:Cx} {pins:List (aa×Obj)} {σ:St} {H:Hp} {s:ar}
theorem Inv.adopt {B:cF} {ea C:aa} {fl:af} (I:Inv X pins σ H s) (f:FlD B X.stack ea (.ref C) fl s.heap) (cov:xM X pins H B s.heap):H ea=none/\Inv X pins σ (upd H ea (XO ea C)) s:=by
 obtain ⟨hB,hn,hl,oe,vs,T,oT,ts,he,hc,hdc,hd,_⟩:=f;have nf:ea∉frs X.stack:=fun z=>by
  obtain ⟨_,o,ho,q⟩:=hl.mem z;rw [he] at ho
  cases ho;exact q vs hd
 have nb:∀ o,B.get? ea≠some o:=fun o z=>by rw [hn] at z; cases z
 have hz:H ea=none:=by
  cases z:H ea with
  | none=>rfl
  | some u=>exact absurd (cov ea oe (.inl (by rw [z]; simp)) nf he) (nb oe)
 have ne:∀ {b:aa} {o:HO},H b=some o->b≠ea:=fun {b o} z=>aG z hz;refine ⟨hz,I.ok,I.os,I.bare,⟨I.base.keep,I.base.slot,fun b o e n hx=>?_,I.base.there,fun b xs e=>?_,fun b o u e=>?_,fun b ps e=>?_⟩,I.loc,I.cell,?_,fun x c e=>?_,fun p hp=>?_,fun b u e=>?_,I.len⟩
 ·rw [aK]
  ·exact I.base.free b o e n hx
  ·rintro rfl;exact nb oe (cov _ oe (.inr (.inl ⟨hx,o,e⟩)) nf he)
 ·have z:=I.base.tups b xs e;rw [aK (ne z)];exact z
 ·have z:=I.base.frzs b o u e;rw [aK (ne z)];exact z
 ·obtain ⟨more,z⟩:=I.base.tbls b ps e;exact ⟨more,by rw [aK (ne z)]; exact z⟩
 ·rw [aK]
  ·exact I.free
  ·intro z;obtain ⟨m,⟨o,es,ep,ho,hdd,_⟩,_⟩:=I.loc;rw [z,he] at ho
   cases ho;rw [hd] at hdd
   cases hdd
 ·rw [aK]
  ·exact I.freeC x c e
  ·intro z;obtain ⟨v,o,ho,hdd⟩:=I.cell x c e;rw [z,he] at ho
   cases ho;rw [hd] at hdd
   cases hdd
 ·obtain ⟨e1,e2,e3,e4,e5⟩:=I.pin p hp;refine ⟨e1,?_,e3,e4,e5⟩;rw [aK]
  ·exact e2
  ·intro z;have e6:s.heap.get? ea=some p.2:=by rw [<- z]; exact e1
   rw [he] at e6
   cases e6;exact nb _ (cov ea _ (.inr (.inr ⟨p,hp,z⟩)) nf he)
 ·by_cases hb:b=ea
  ·subst hb;rw [ag] at e
   cases e;refine XOk.obj ⟨oe,he,hc,hdc,?_⟩;unfold EW;rw [hd]
  ·rw [aK hb] at e;exact (I.hok b u e).stay (fun _ _ _ q=>q) (fun c q=>by rw [aK (ne q)]; exact q) fun c xs q=>by rw [aK (ne q)]; exact q
theorem CH {M:Hm} {A:bZ} {E:af->ar->Prop} {i:Nat} {x:Str} {v:V} {Q:Unit->ar->Prop} (I:Inv X pins σ H s) (hN:X.N.Nodup) (hi:X.N[i]?=some x) (hk:X.env.scope.names.lookup x=some .local) (hv:σ[i]?=some (some v))
  (h:∀ s',Inv X pins (σ.set i none) H s'->Q () s'):aW M A (unbindName X.env x) Q E s:=by
 obtain ⟨m,hn,hl⟩:=id I.loc;have hcls:(X.env.scope.kind == .class || (X.env.scope.kind == .module && X.env.locals != X.env.globals))=false:=by rw [I.ok.kind]; rfl
 have hkd:X.env.kindOf x=some .local:=hk;have hmx:(m x).isSome=true:=by
  obtain ⟨u,_,q⟩:=hl i x v hi hv (.inl hk)
  rcases q with ⟨_,e⟩ | ⟨k,_⟩
  ·rw [e]; rfl
  ·rw [hkd] at k
   rcases k with k | k <;> cases k
 unfold unbindName;refine aq (wpAny_point (aq ?_));unfold deleteName;simp only [hkd,hcls];rw [if_neg (by decide)];refine aq (wpAny_nsDel_keeps hn fun h' v' hn' hs=>?_);rw [hmx];simp only [Bool.not_true,jv,if_false];refine aP (wpAny_point (h _ ?_));obtain ⟨oL,_,_,hoL,_⟩:=id hn;have cne:=I.cne;have below:∀ b o,X.s₀.heap.get? b=some o->b≠X.env.locals:=fun b o e=>aN (bK (aM e) I.ok.above);refine ⟨I.ok,I.os,I.bare,⟨fun b o e n hb hx=>(hs.2 b (below b o e)).trans (I.base.keep b o e n hb hx),fun b o e n hb hx=>?_,I.base.free,fun b o e hx=>?_,I.base.tups,I.base.frzs,I.base.tbls⟩,⟨_,hn',fun j y v2 e1 e2 e3=>?_⟩,fun y c e=>?_,I.free,I.freeC,fun p hp=>?_,fun b ob e=>?_,by simpa using I.len⟩
 ·obtain ⟨sl,e1⟩:=I.base.slot b o e n hb hx;exact ⟨sl,(hs.2 b (below b o e)).trans e1⟩
 ·obtain ⟨o',e1⟩:=I.base.there b o e hx;exact ⟨o',(hs.2 b (below b o e)).trans e1⟩
 ·by_cases hj:j=i
  ·subst hj;have hlt:j < σ.length:=(aC.mp hv).1;rw [fb hlt] at e2
   cases e2
  ·rw [iU (fV hj)] at e2;obtain ⟨u',r',q⟩:=hl j y v2 e1 e2 e3;refine ⟨u',r',?_⟩
   rcases q with ⟨k,e⟩ | ⟨k,c,e,z⟩
   ·refine .inl ⟨k,?_⟩;have hne:y≠x:=fun e=>hj (uN hN e1 (e ▸ hi));simp [hne,e]
   ·exact .inr ⟨k,c,e,z.sameBut hs (cne y c e)⟩
 ·obtain ⟨w',z⟩:=I.cell y c e;exact ⟨w',z.sameBut hs (cne y c e)⟩
 ·obtain ⟨e,n,ne,nf,d⟩:=I.pin p hp;exact ⟨(hs.2 p.1 ne).trans e,n,ne,nf,d⟩
 ·refine (I.hok b ob e).stay (fun c w' hc q=>(hs.2 c ?_).trans q) (fun _ q=>q) fun _ _ q=>q;rintro rfl
  rcases hc with rfl | hc
  ·rw [I.free] at e; cases e
  ·rw [I.free] at hc; cases hc
def JA (i:Nat) (D:kL):kL:={nx:=fun σ H=>D.nx (σ.set i none) H,rt:=D.rt,bk:=fun σ H=>D.bk (σ.set i none) H,ct:=fun σ H=>D.ct (σ.set i none) H}
def thAs (K:ae) (Ci:aa) (i:Nat) (t:TS) (th:TH):TH:=fun C D σ H =>
 (dC K (.ref C) (.ref Ci)=some true/\∀ ea,H ea=none->t (JA i D) (σ.set i (some (.ref ea))) (upd H ea (XO ea C)))\/(dC K (.ref C) (.ref Ci)=some false/\th C D σ H)
theorem uD {M:Hm} {A:bZ} {E:af->ar->Prop} {i:Nat} {x:Str} {pos:Pos} {Q:Unit->ar->Prop} (I:Inv X pins σ H s) (hN:X.N.Nodup) (hi:X.N[i]?=some x) (hk:X.env.scope.names.lookup x=some .local)
  (h:∀ s',Inv X pins (σ.set i none) H s'->Q () s'):aW M A (do bindName X.env x .none; sV X.env x pos) Q E s:=by
 have hlt:i < σ.length:=by
  rw [I.len];exact (aC.mp hi).1
 refine aq (wpAny_bindName (qX (v:=.non) I hN hi (.inl hk) rfl (fun s1 I1=>?_) (.inr hk)));unfold sV;refine wpAny_onRaise (CH (v:=.non) I1 hN hi hk (fb hlt) fun s2 I2=>h s2 ?_);rw [List.set_set] at I2;exact I2
theorem K3 {x n:Str} {Ci:aa} {np pos:Pos} {b₀:dJ} {suite:List dJ} {rest:List ux} {t:TS} {th:TH} (i:Nat) (hg:Gl X x) (hm:X.mg x=some (.ref Ci)) (hN:X.N.Nodup) (hi:X.N[i]?=some n) (hk:X.env.scope.names.lookup n=some .local)
  (hsu:∀ ea,PSs (X.hdl ea) (b₀ :: suite) t) (hr:PHs X rest th) (hd:(x == ("__debug__":Str))=false:=by decide):PHs X (.ExceptHandler (some (.Name x np)) (some n) (b₀ :: suite) pos :: rest) (thAs X.K Ci i t th):=by
 intro pins s σ H D ea C B I fl cov h;refine wpAny_handleBy_cons (codeAny_handlers_test ?_) (by intro q; cases q);refine qY (X:=X.hdl ea) (I.hdl ea) hg hm ?_ hd;obtain ⟨ob,hob,hc⟩:=fl.there;have LT:PySem.W.Looks (bJ X.prog X.w) s.heap (typeOf (.ref ea)) (.ref C):=by
  rw [<- hc];exact (PySem.W.Looks.ld hob).andThen .now
 rcases h with ⟨hx,q⟩ | ⟨hx,q⟩
 ·refine (DH I.kIn LT hx).here ?_;refine codeAny_handlers_suite_as (rA fl fun h6 fl6 sm6=>?_);have I6:=I.landed fl6.1 cov sm6;obtain ⟨hz,J⟩:=I6.adopt fl6 (xM.land I fl6.1 cov);refine qX (X:=X.hdl ea) (v:=.ref ea) (J.hdl ea) hN hi (.inl hk) rfl (fun s2 I2=>?_) (.inr hk);refine eN (hsu ea pins _ _ _ (JA i D) I2 (q ea hz)) (fun f s3 z=>?_) (fun _ _ z=>dN z);show aW _ X.A (do bindName X.env n .none; sV X.env n pos) (fun _ s₃=>SP X pins D f s₃) X.xe s3
  cases f with
  | next=>obtain ⟨σ',H',I3,q3⟩:=z; exact uD (I3.unhdl I.ok) hN hi hk fun s4 I4=>⟨_,_,I4,q3⟩
  | brk=>obtain ⟨σ',H',I3,q3⟩:=z; exact uD (I3.unhdl I.ok) hN hi hk fun s4 I4=>⟨_,_,I4,q3⟩
  | cont=>obtain ⟨σ',H',I3,q3⟩:=z; exact uD (I3.unhdl I.ok) hN hi hk fun s4 I4=>⟨_,_,I4,q3⟩
  | ret u=>obtain ⟨v,σ',H',I3,r3,q3⟩:=z; exact uD (I3.unhdl I.ok) hN hi hk fun s4 I4=>⟨v,_,_,I4,r3,q3⟩
 ·refine (DH I.kIn LT hx).here ?_;exact hr pins s σ H D ea C B I fl cov q
end
section
variable {X:Cx} {pins:List (aa×Obj)} {σ:St} {H:Hp} {s s2:ar} {h':cF}
theorem Inv.turned2 {t':Nat} {e it:aa} (I:Inv X pins σ H s) (k:∀ b o,b≠e->b≠it->s.heap.get? b=some o->h'.get? b=some o) (f:xq X pins H e) (g:xq X pins H it):Inv X pins σ H {s with heap:=h',toks:=t'}:=by
 have ne1:∀ b u,H b=some u->b≠e:=fun b u q z=>by rw [z,f.1] at q; cases q
 have ne2:∀ b u,H b=some u->b≠it:=fun b u q z=>by rw [z,g.1] at q; cases q
 obtain ⟨f0,f1,f2,f3,f4,f5⟩:=f;obtain ⟨g0,g1,g2,g3,g4,g5⟩:=g;refine I.step (g':=s.gens) (d':=s.drawn) (ch:=[e,it]) (fun b hb=>?_) (fun b o _ _ hc q _=>k b o (fun z=>hc (by simp [z])) (fun z=>hc (by simp [z])) q) (fun b o _ _ hc q _=>⟨o.slots,k b o (fun z=>hc (by simp [z])) (fun z=>hc (by simp [z])) q⟩) (fun _ _ _ _ n=>n)
  (fun b o hc q=>⟨o,k b o (fun z=>hc (by simp [z])) (fun z=>hc (by simp [z])) q⟩) (fun _ _ q=>q) (fun _ _ _ q=>q) (fun b ps q=>⟨#[],by rw [q]; simp⟩) (fun m hm=>?_) (fun b u q=>?_) I.bare
 ·rcases ay.mp hb with z | z
  ·subst z;exact ⟨f3,f1,f4,f5⟩
  ·have z:=aH.mp z;subst z;exact ⟨g3,g1,g4,g5⟩
 ·obtain ⟨o,es,ep,ho,r⟩:=hm;exact ⟨o,es,ep,k _ o (fV f1) (fV g1) ho,r⟩
 ·refine (I.hok b u q).stay (fun c v hc q'=>k c v ?_ ?_ q') (fun _ q=>q) fun _ _ q=>q
  ·rcases hc with z | z
   ·rw [z]; exact ne1 b u q
   ·exact ne1 c _ z
  ·rcases hc with z | z
   ·rw [z]; exact ne2 b u q
   ·exact ne2 c _ z
theorem Inv.track {o:HO} (I:Inv X pins σ H s) (I2:Inv X pins σ H s2) (ok:eE X.prog X.w (upd H s.heap.objs.size o) s2.heap s.heap.objs.size o):Inv X pins σ (upd H s.heap.objs.size o) s2:=by
 have fr:H s.heap.objs.size=none:=I.hok.fresh (aE _);exact ⟨I2.ok,I2.os,I2.bare,⟨I2.base.keep,I2.base.slot,fun b ob q n hx=>by
   have z:=I2.base.free b ob q n hx
   by_cases y:b=s.heap.objs.size
   ·exfalso;have lt:b < s.heap.objs.size:=bK (aM q) I.sz;rw [y] at lt;exact absurd lt (hU _)
   ·rw [aK y];exact z,I2.base.there,fun b xs q=>by
   rw [aK (aG (I2.base.tups b xs q) fr)];exact I2.base.tups b xs q,fun b ob v q=>by
   rw [aK (aG (I2.base.frzs b ob v q) fr)];exact I2.base.frzs b ob v q,fun b ps q=>by
   obtain ⟨m,z⟩:=I2.base.tbls b ps q;exact ⟨m,by rw [aK (aG z fr)]; exact z⟩⟩,I2.loc,I2.cell,by
   rw [aK (aN I.lt)];exact I2.free,fun x c q=>by
   obtain ⟨v,y⟩:=I.cell x c q;rw [aK (aN y.lt)];exact I2.freeC x c q,fun p hp=>by
   obtain ⟨h1,h2',h3⟩:=I2.pin p hp;obtain ⟨g1,_⟩:=I.pin p hp;refine ⟨h1,?_,h3⟩;rw [aK (aN (aM g1))];exact h2',fun b v q=>by
   by_cases y:b=s.heap.objs.size
   ·subst y;rw [ag] at q
    cases q;exact ok
   ·rw [aK y] at q;exact (I2.hok b v q).stay (fun c v' _ z=>z) (fun c z=>by rw [aK (aG z fr)]; exact z) fun c xs z=>by rw [aK (aG z fr)]; exact z,I2.len⟩
end
def Ite (K:ae) (a:aa):It:=
 ⟨fun i H=>∃ xs x,SqL K H a xs/\xs[i]?=some x,fun i H x H'=>∃ t y,x=.ref t/\H t=none/\(∀ xs,SqL K H a xs->xs[i]?=some y)/\H'=upd H t (.tup [.int i,y]),fun i H=>∃ xs,SqL K H a xs/\xs.length<=i⟩
section
variable {P:aL} {w:bN} {K:ae}
theorem CI {elts:List cZ} {x1} {pos:Pos} (a e it:aa) (hne:e≠it):Cf P w K (.Tuple elts x1 pos) (Ite K a) [e,it] e (fun i h=>∃ old,IsEnum h e it (i:Int) old/\h.IsListIter it a i) where
 mem:=by simp
 obj:=fun i h st b hb=>by
  obtain ⟨old,h1,h2⟩:=st
  rcases ay.mp hb with z | z
  ·subst z;exact ⟨_,h1,fun v z=>by cases z⟩
  ·have z:=aH.mp z;subst z;obtain ⟨o,e,c,d⟩:=h2;exact ⟨o,e,fun v z=>by rw [d] at z; cases z⟩
 keep:=fun i h h' ⟨old,h1,h2⟩ k=>⟨old,k e (by simp) _ h1,h2.at fun o q=>k it (by simp) o q⟩
 item:=by
  intro X hP hw hK hc i pins s σ H E I hf st hg;subst hP hw hK;obtain ⟨old,st1,st2⟩:=st;obtain ⟨xs,x,hq,hx⟩:=hg;obtain ⟨its,rv,p,hz⟩:=I.list hq;obtain ⟨u,hu,ru⟩:=rv.get hx;have F1:=hf e (by simp);have F2:=hf it (by simp);obtain ⟨f0,f1,f2,f3,f4,f5⟩:=id F1;refine wpAny_pyNext_enum_item st1 st2 p.isList (x:=u) (by simpa using hu) hne fun h' a1 a2 a3 a4 a5=>?_;have I1:Inv X pins σ H {s with heap:=h',toks:=s.toks + 1}:=I.turned2 (t':=s.toks + 1) (fun b o h1 h2 q=>a5 b o h1 h2 q) F1 F2;refine ⟨_,rfl,wpAny_letOwnedTupleGo_enum a1 fun h2 e2 sb=>?_⟩;have I2:Inv X pins σ H {s with heap:=h2,toks:=s.toks + 1}:=I1.turned (t':=s.toks + 1) (fun b o hb q=>sb.extBut b o hb q) f0 f1 f3 f4 f5;have fr:H s.heap.objs.size=none:=I.hok.fresh (aE _);have n1:s.heap.objs.size≠e:=(aN (aM st1)).symm;have n2:s.heap.objs.size≠it:=by
   obtain ⟨o,q,_⟩:=st2;exact (aN (aM q)).symm
  have t2:=sb.extBut _ _ n1 a3;have I3:=I.track I2 (o:=.tup [.int i,x]) ⟨(by show 2<=au; decide),[.int i s.toks,u],.cons ⟨_,rfl⟩ (.cons ru .nil),_,t2,rfl,0,rfl⟩;refine ⟨.ref s.heap.objs.size,_,I3,rfl,⟨_,x,rfl,fr,fun ys hy=>by rw [I.list_inj hy hq]; exact hx,rfl⟩,⟨u,e2,a2.extBut sb.extBut (fV hne)⟩,fun b hb=>?_⟩
  rcases ay.mp hb with z | z
  ·rw [z,aK (fV n1)];exact f0
  ·rw [aH.mp z,aK (fV n2)];exact F2.1
 done:=by
  intro X hP hw hK hc i pins s σ H E I hf st hg;subst hP hw hK;obtain ⟨old,st1,st2⟩:=st;obtain ⟨xs,hq,hx⟩:=hg;obtain ⟨its,rv,p,hz⟩:=I.list hq;obtain ⟨f0,f1,f2,f3,f4,f5⟩:=hf it (by simp);have hl:=rv.length;exact wpAny_pyNext_enum_end (I.ok.hd hc) st1 st2 p.isList (by simp; omega) fun h' eb=>⟨rfl,I.turned (t':=s.toks) (fun b o hb e=>eb b o hb e) f0 f1 f3 f4 f5⟩
 self:=fun A i s Q E ⟨old,st,_⟩ h=>by
  have ty:s.TypeIs (.ref e) "enumerate":=⟨_,st,rfl⟩;refine vT ty F.slot_enumerate_iter (qm F.slot_enumerate_iter ty F.entry_enumerate_iter ?_ (F.args_enumerate_iter_1 _));show aW _ _ (ret (.ref e)) _ _ s;exact aP ⟨_,rfl,"enumerate",_,ty,F.slot_enumerate_next.lookup,h⟩
end
section
variable {X:Cx} {elts:List cZ} {x1:Nat} {tpos pos p:Pos}
def JB (K:ae) (tl:TA):TI:=fun σ H R=>tl σ H fun vs H1=>∃ a,vs=[.ref a]/\(∃ xs,SqL K H1 a xs)/\R (Ite K a) H1
theorem HV {a:cZ} {ta:TA} (hg:Gl X "enumerate") (hm:X.mg "enumerate"=none) (ha:PA X [a] ta) (hs:cM [a] X.env=[(false,fy a X.env)]:=by rfl):PI X (.Tuple elts x1 tpos) (.Call (.Name "enumerate" p) [a] [] pos) (JB X.K ta):=by
 intro pins s σ H R I h;refine Call_ (sj I hg hm boot_enumerate (jU (thn (ha pos pins s σ H _ I h) fun us s1 ⟨vs,H1,I1,r1,q1⟩=>?_) hs rfl));obtain ⟨l,e,⟨xs,hq⟩,q⟩:=q1;subst e;obtain ⟨u,rfl,ru⟩:=vals1 r1
 cases ru;obtain ⟨its,rv,pl,hz⟩:=I1.list hq;refine call_enumerate_list pl.isList fun h' e1 e2 e3 e4=>?_;have I2:Inv X pins σ H1 {s1 with heap:=h'}:=I1.kept (t':=s1.toks) e4;have ty:({s1 with heap:=h'}:ar).TypeIs (.ref (s1.heap.objs.size + 1)) "enumerate":=⟨_,e1,rfl⟩;refine vT ty F.slot_enumerate_iter (qm F.slot_enumerate_iter ty F.entry_enumerate_iter ?_ (F.args_enumerate_iter_1 _));show aW _ _ (ret (.ref (s1.heap.objs.size + 1))) _ _ _;refine aP ⟨_,rfl,"enumerate",_,ty,F.slot_enumerate_next.lookup,?_⟩;refine ⟨_,[_,_],_,_,H1,rfl,I2,CI l _ s1.heap.objs.size (Nat.succ_ne_self _),⟨.none,e1,e2⟩,fun b hb=>?_,q⟩
 rcases ay.mp hb with z | z
 ·rw [z];exact I1.fpOk (gc _) (I1.hok.fresh (gc _))
 ·rw [aH.mp z];exact I1.fpOk (aE _) (I1.hok.fresh (aE _))
theorem CJ {K:ae} {a:aa} {xs:List V} {n:Nat} {g:TG} {tc:TT} {te:TE} {σ:St} {H:Hp} {Q:VK} (Pv:Nat->List V->Hp->Prop) (h0:Pv 0 [] H) (hl:∀ i ys H,i<=xs.length->Pv i ys H->SqL K H a xs/\ys.length < au)
  (hs:∀ i x t ys H,xs[i]?=some x->Pv i ys H->H t=none->g (.ref t) (cH n none++σ) (upd H t (.tup [.int i,x])) fun σ2 H2=>σ2.drop n=σ/\tc σ2 H2 fun b H3=>if b=true then te σ2 H3 fun y H4=>Pv (i + 1) (ys++[y]) H4 else Pv (i + 1) ys H3)
  (hd:∀ ys H,Pv xs.length ys H->∀ p,H p=none->Q (.ref p) (upd H p (.lst ys))) :
  ∃ W:Nat->Nat->List V->Hp->Prop,(∃ m,W 0 m [] H)/\∀ i m ys H,W i m ys H->ys.length < au/\(((Ite K a).stop i H/\∀ p,H p=none->Q (.ref p) (upd H p (.lst ys))) \/
   ((Ite K a).go i H/\∃ N:List V->Hp->Prop,(∀ ys' H',N ys' H'->∃ m',m' < m/\W (i + 1) m' ys' H')/\∀ x H',(Ite K a).yld i H x H'->g x (cH n none++σ) H' fun σ2 H2=>σ2.drop n=σ/\tc σ2 H2 fun b H3 =>
    if b=true then te σ2 H3 fun y H4=>N (ys++[y]) H4 else N ys H3)):=by
 refine ⟨fun i m ys H=>m=xs.length - i/\i<=xs.length/\Pv i ys H,⟨xs.length,by simp,bH _,h0⟩,?_⟩;rintro i m ys H ⟨rfl,hi,p⟩;obtain ⟨q,z⟩:=hl i ys H hi p;refine ⟨z,?_⟩
 by_cases hlt:i < xs.length
 ·refine .inr ⟨⟨xs,xs[i],q,by simp [hlt]⟩,Pv (i + 1),fun ys' H' p'=>⟨xs.length - (i + 1),by omega,rfl,hlt,p'⟩,fun x H' y=>?_⟩;obtain ⟨t,v,rfl,ht,hv,rfl⟩:=y;exact hs i v t ys H (hv xs q) p ht
 ·have e:i=xs.length:=by omega
  subst e;exact .inl ⟨⟨xs,q,aE _⟩,hd ys H p⟩
end
section
variable {prog:aL} {w:bN} {A:bZ} {E:af->ar->Prop} {s:ar}
theorem vV {a:aa} {vs:List af} {n:Nat} {b:Bool} {P:Fin->ar->Prop} (ho:s.heap.get? a=some (dW "list" vs.toArray n)) (h2:vs.length < 2)
  (h:P (.done (.ret .none)) {s with heap:=sortedHeap s.heap a vs vs.toArray}) :
  aW (bJ prog w) A (iX.«list.sort» ⟨[.ref a],[(jR "reverse",.bool b)]⟩) P E s:=by
 rw [list_sort_rev];have ha:a < s.heap.objs.size:=aM ho;refine aq (listItems_at ho rfl ?_);refine aq (uE ho rfl ?_);obtain ⟨e1,ho1⟩:∃ e1,(s.heap.update a (df fun _=>#[])).get? a=some (dW "list" #[] e1):=⟨_,get?_update_seq ho (fun _=>#[])⟩;refine aq (yw ho1 rfl ?_);refine aq (wpAny_newTuple ?_);refine aq (uF ?_);refine dD ?_;have ho6:(((s.heap.update a (df fun _=>#[])).push (dW "tuple" vs.toArray 0)).push (dW "list" #[] 0)).get? a=some (dW "list" #[] e1):=by
  rw [gj _ _ _ (by rw [ve,gG]; exact aN (jS ha)),gj _ _ _ (by rw [gG]; exact aN ha)];exact ho1
 have one:((if b=true then (if b=true then (vs.toArray.zip vs.toArray).reverse else vs.toArray.zip vs.toArray).map (·.2) |>.reverse else (if b=true then (vs.toArray.zip vs.toArray).reverse else vs.toArray.zip vs.toArray).map (·.2)):Array af)=vs.toArray:=by
  match vs,h2 with
  | [],_=>cases b <;> simp
  | [v],_=>cases b <;> simp
 show aW (bJ prog w) A _ P E {s with heap:=((s.heap.update a (df fun _=>#[])).push (dW "tuple" vs.toArray 0)).push (dW "list" #[] 0)};dsimp only;have step:∀ t:Sem Fin,aW (bJ prog w) A t P E {s with heap:=((s.heap.update a (df fun _=>#[])).push (dW "tuple" vs.toArray 0)).push (dW "list" #[] 0)} ->
   aW (bJ prog w) A (if b=true then (do let _ <- Hq "list.sort.reverse"; t) else t) P E {s with heap:=((s.heap.update a (df fun _=>#[])).push (dW "tuple" vs.toArray 0)).push (dW "list" #[] 0)}:=by
  intro t ht
  split
  ·exact aq (Ad ht)
  ·exact ht
 refine step _ ?_;have h2':vs.toArray.size < 2:=by simpa using h2
 rw [if_pos h2',if_pos h2'];refine aq (aP ?_);rw [StateT.run_pure];refine aq (aP ?_);dsimp only;refine aq (yw ho6 rfl ?_);have one':(if b=true then (Array.map (fun x=>x.snd) (arrOf (MU general' (if b=true then (vs.toArray.zip vs.toArray).reverse else vs.toArray.zip vs.toArray) #[] 7 none))).reverse else Array.map (fun x=>x.snd) (arrOf (MU general' (if b=true then (vs.toArray.zip vs.toArray).reverse else vs.toArray.zip vs.toArray) #[] 7 none)))=vs.toArray:=one;rw [one'];refine aq (uE ho6 rfl ?_ (hsz2:=by rw [oJ]; omega));simp only [bne_self_eq_false,jv,if_false];exact aP h
theorem Aj {l:aa} {vs:List af} {b:Bool} {Q:af->ar->Prop} (hl:s.heap.IsList l vs.toArray) (h2:vs.length < 2)
  (h:Q (.ref (s.heap.objs.size + 1)) {s with heap:=DI s.heap vs vs.toArray}) :
  aW (bJ prog w) A (xr (.builtin "sorted") [.ref l] [(jR "reverse",.bool b)]) Q E s:=by
 refine EX kind_sorted plain_sorted entry_sorted (args_sorted_rev _ _) ?_;unfold iX.«sorted»;refine aq (m:=checkCount "sorted" 1 1 _) (aP ?_);refine aq (collect_list hl ?_);refine aq (uF ?_);have hsz:((s.heap.push (dW "list" #[] 0)).update s.heap.objs.size (df (·++vs.toArray))).objs.size=s.heap.objs.size + 1:=by
  rw [gG,ve]
 have hoL:(((s.heap.push (dW "list" #[] 0)).update s.heap.objs.size (df (·++vs.toArray))).push (dW "list" vs.toArray 0)).get? (s.heap.objs.size + 1)=some (dW "list" vs.toArray 0):=by
  rw [<- hsz]; exact cz _ rfl
 show aW _ _ _ _ _ {s with heap:=((s.heap.push (dW "list" #[] 0)).update s.heap.objs.size (df (·++vs.toArray))).push (dW "list" vs.toArray 0)};rw [hsz];refine aq (dD (JC slot_list_sort ⟨_,hoL,rfl⟩ entry_list_sort (vV hoL h2 ⟨_,rfl,?_⟩) (K4 _ _)));exact aP ⟨_,rfl,h⟩
end
section
variable {X:Cx} {e:cZ} {t:TA} {p pos kp bp:Pos} {j:Nat}
end
section
variable {X:Cx}
def tTryE (T:aa->St->Hp->Prop) (tb:TS) (th:TH) (te:TS):TS:=fun D σ H=>tb {D with nx:=te D} σ H/\∀ C σ' H',σ'.length=σ.length->T C σ' H'->th C D σ' H'
theorem HW {body orelse:List dJ} {h₀:ux} {hs:List ux} {pos:Pos} {tb te:TS} {th:TH} (T:aa->St->Hp->Prop) (hb:∀ pins,PSs (X.tr pins T) body tb) (hh:PHs X (h₀ :: hs) th) (ho:PSs X orelse te)
  (hst:X.stack=X.env :: X.outer:=by rfl) (hfr:X.env.frame=some X.env.locals:=by rfl):PS X (.Try body (h₀ :: hs) orelse [] pos) (tTryE T tb th te):=by
 intro pins s σ H D I h;obtain ⟨h1,h2⟩:=h;refine wpAny_Try_except (eN (hb pins [] s σ H {D with nx:=te D} (I.tr T) h1) (fun f s1 q=>?_) (fun e s1 q=>?_))
 ·cases f with
  | next=>obtain ⟨σ',H',J,q⟩:=q; exact ho pins s1 σ' H' D J.untr q
  | ret v=>obtain ⟨v,σ',H',J,r,q⟩:=q; exact ⟨v,σ',H',J.untr,r,q⟩
  | brk=>obtain ⟨σ',H',J,q⟩:=q; exact ⟨σ',H',J.untr,q⟩
  | cont=>obtain ⟨σ',H',J,q⟩:=q; exact ⟨σ',H',J.untr,q⟩
 ·obtain ⟨ea,C,B,σ',H',rfl,J,fl,cov,t⟩:=q;have fl1:FlD B (X.env :: X.outer) ea (.ref C) .none s1.heap:=by
   rw [<- hst];exact fl
  refine Bf (by rw [J.ok.frames,hst]) hfr fl1 fun h4 x4 s4=>?_;refine rA x4 fun h5 fl5 s5=>?_;have J5:=J.landed fl5.1 cov (s4.trans s5);rw [<- hst] at fl5;exact hh pins _ σ' H' D ea C B J5 fl5 (xM.land J fl5.1 cov) (h2 C σ' H' (by rw [J.len,I.len]) t)
end
abbrev yZ (A:bZ):bZ:={A with handled:=none}
structure pf (P:aL) (w:bN) (K:ae) (mg:Str->Option af) (base:cF) (CX:CXT) (k:Nat) (f:aa) (fd:cw) (ps:List Str) (sp:Sp):Prop where
 len:∀ vs H Q E,sp vs H Q E->vs.length=ps.length
 run:∀ (A:bZ) (outer:List Env) (s:ar) (H:Hp) (args:Args) (us:List af) (vs:List V) (Q:VK) (E:XK),d5 k (yZ A)->xy P w K mg base A outer s H->tP s fd args (ps.zip us)->cX vs us->sp vs H Q E ->
  oK (bJ P w) A (.call (.ref f) args) (CR CX outer P w H s Q E) s
theorem K5 {CX:CXT} {P:aL} {w:bN} {K:ae} {mg:Str->Option af} {base:cF} {k:Nat} {f:aa} {name qual:Str} {params:Arguments} {body:List dJ} {scope:lE} {dV kV doc pm cdv ct oc:af} {an od:Option aa}
  {osl:Array (Option af)} {N ps:List Str} {sp:Sp} (lk:K.lookup f=some ⟨oc,od,.func (eW name qual params body scope dV kV doc pm an cdv ct),osl⟩) (hcd:jz K cdv qual=true) (S:cv N ps scope)
  (len:∀ vs H Q E,sp vs H Q E->vs.length=ps.length)
  (hbody:∀ (A:bZ) (outer:List Env) (s:ar) (H:Hp) (vs:List V) (Q:VK) (E:XK),sp vs H Q E ->
   ∃ t,PSs {sN CX P w K mg base N qual scope f cdv A outer s H E with calm:=false} body t/\t {nx:=fun _ H'=>Q .non H',rt:=Q} (start N vs) H) :
  pf P w K mg base CX (k + 1) f (eW name qual params body scope dV kV doc pm an cdv ct) ps sp:=by
 refine ⟨len,fun A outer s H args us vs Q E hr e0 hb r hsp=>?_⟩;have hl:=len _ _ _ _ hsp;have KX:K.In s.heap:=e0.mod.kin.keeps fun b o e=>(e0.bs b o e).1;have lim:s.heap.NoLimit:=e0.mod.nolimit.keeps fun b o e=>(e0.bs b o e).1;have hkind:∀ y∈ps.zip us,scope.names.lookup y.1=some .local\/(scope.names.lookup y.1=some .cell/\((Dt (s.heap.objs.size + 1) scope.names []).lookup y.1).isSome=true):=fun ⟨n,v⟩ hy=>by
  rcases S.par n (oV hy).1 with q | q
  ·exact .inl q
  ·exact .inr ⟨q,nF _ _ _ (.inl q)⟩
 refine Hf (A:=A) hr.depth (KX _ _ lk) rfl S.co S.gen rfl (zV KX hcd) (hb _ _ _ _ ?_);refine zW S.kind hkind fun env he s1 x=>?_;subst he;refine ⟨lim.keeps x.toInCall.keep,codeAny_func ?_⟩;obtain ⟨t,ht,hq⟩:=hbody A outer s H vs Q E hsp;have e1:xy P w K mg base (yZ A) outer s H:=⟨e0.frames,e0.mod,e0.bs,e0.bsz,e0.funs,e0.frf,e0.hok,e0.bare⟩;have I0:Inv (sN CX P w K mg base N qual scope f cdv (yZ A) outer s H E) [] (start N vs) H s1:=wD S rfl e1 hl r x;have I:Inv {sN CX P w K mg base N qual scope f cdv A outer s H E with calm:=false} [] (start N vs) H s1:=
  ⟨⟨I0.ok.mod,I0.ok.kind,I0.ok.glob,I0.ok.blt,I0.ok.above,I0.ok.inj,I0.ok.has,I0.ok.cab,fun z=>uw z,I0.ok.frames,I0.ok.stk,I0.ok.exf,I0.ok.bs,I0.ok.bsz,I0.ok.noex,I0.ok.exfs,I0.ok.funs,I0.ok.frf⟩,I0.os,I0.bare,I0.base,I0.loc,I0.cell,I0.free,I0.freeC,I0.pin,I0.hok,I0.len⟩
 refine eN (ht [] s1 (start N vs) H _ I hq) (fun fl s' hs=>?_) fun e s' hs=>hs;have fin:∀ {σ':St} {H':Hp} {v:V} {u:af},Inv {sN CX P w K mg base N qual scope f cdv A outer s H E with calm:=false} [] σ' H' s'->RelV v u->Q v H'->CE outer P w H s Q u s':=
  fun {σ' H' v u} J rv q=>⟨v,H',J.os,J.bare,J.base,J.hok,rv,q⟩
 cases fl with
 | ret u =>
  obtain ⟨v,σ',H',J,rv,q⟩:=hs;exact fin J rv q
 | next =>
  obtain ⟨σ',H',J,q⟩:=hs;exact fin (v:=V.non) (u:=Value.none) J rfl q
 | brk =>
  obtain ⟨_,_,_,q⟩:=hs;exact dN q
 | cont =>
  obtain ⟨_,_,_,q⟩:=hs;exact dN q
theorem Fun.okH {P:aL} {w:bN} {K:ae} {mg:Str->Option af} {base:cF} {x qual:Str} {st:dJ} {f:aa} {fd:cw} {N ps:List Str} {k:Nat} {sp:Sp} (F:Fun K x qual st f fd) (S:cv N ps (aQ st)) (len:∀ vs H Q E,sp vs H Q E->vs.length=ps.length)
  (hbody:∀ (cdv:af) (A:bZ) (outer:List Env) (s:ar) (H:Hp) (vs:List V) (Q:VK) (E:XK),sp vs H Q E ->
   ∃ t,PSs {sN CX0 P w K mg base N qual (aQ st) f cdv A outer s H E with calm:=false} (i5 st) t/\t {nx:=fun _ H'=>Q .non H',rt:=Q} (start N vs) H):pf P w K mg base CX0 (k + 1) f fd ps sp:=by
 obtain ⟨oc,od,kV,doc,pm,an,cdv,ct,osl,rfl,lk,hcd⟩:=F.ex;exact K5 lk hcd S len fun A outer s H vs Q E hsp=>hbody cdv A outer s H vs Q E hsp
theorem HX {X:Cx} {CX:CXT} {k:Nat} {f:aa} {fd:cw} {ps:List Str} {sp:Sp} {E:XK} {pins:List (aa×Obj)} {σ:St} {H:Hp} {s:ar} {Q:VK} {us:List af} {vs:List V} (F:pf X.prog X.w X.K X.mg X.base CX k f fd ps sp) (hr:d5 k (yZ X.A)) (hb:Binds X.K fd ps []) (hx:lY CX X E)
  (I:Inv X pins σ H s) (r:cX vs us) (h:sp vs H Q E):aW (bJ X.prog X.w) X.A (xr (.ref f) us) (EP X pins σ Q) X.xe s:=by
 have hl:(us++[]).length=ps.length:=by rw [dE,<- r.length]; exact F.len _ _ _ _ h
 have hb1:=hb s us I.kIn hl;rw [dE] at hb1;refine zU (mE (F.run X.A X.stack s H ⟨us,[]⟩ us vs Q E hr I.env0 hb1 r h) fun r s' hq=>?_)
 cases r with
 | error e=>exact hx pins σ H s e s' I hq
 | ok fl =>
  cases fl with
  | ret u=>exact I.after hq
  | next=>exact dN hq
  | brk=>exact dN hq
  | cont=>exact dN hq
section
variable {X:Cx} {CX:CXT} {k:Nat} {ι:Type} {fm C:ι->aa} {fd:ι->cw} {ps:List Str} {sp:ι->Sp} {E:XK} {m:Str} {pos apos:Pos} {o:cZ} {ta:TE}
def HY (C:ι->aa) (sp:ι->Sp) (E:XK) (ta:TE):TE:=fun σ H Q=>ta σ H fun x H1=>∃ a i,x=.ref a/\H1 a=some (XO a (C i))/\sp i [.ref a] H1 Q E
theorem CK {pl:Sem Bool} (he:PE X o ta) (c:∀ i,vU X.K (C i)) (hm:∀ i,xx X.K (C i) m (fm i)) (F:∀ i,pf X.prog X.w X.K X.mg X.base CX k (fm i) (fd i) ps (sp i)) (hr:d5 k (yZ X.A)) (hb:∀ i,Binds X.K (fd i) ps []) (hx:lY CX X E)
  (ht:fy (.Call (.Attribute o m apos) [] [] pos) X.env=(do
   let ov <- fy o X.env
   vK apos.atName
   let (f,first) <- qB [ov] (m9 ov m pl)
   zO pos f first (jd pos (cM [] X.env)) (nC pos (je [] X.env))):=by rfl) :
  PE X (.Call (.Attribute o m apos) [] [] pos) (HY C sp E ta):=by
 intro pins s σ H Q I h;refine jM (pl:=pl) (thn (he pins s σ H _ I h) fun u s1 ⟨x,H1,I1,rx,a,i,ex,ea,q⟩=>?_) ht;subst ex;obtain rfl:u=Value.ref a:=rx;obtain ⟨ox,J⟩:=(K2 I1.hok ea).inst;refine EV I1.kIn J (c i) (hm i).at_ (beq_iff_eq.mp (hm i).fn) ?_;exact zy (first:=[.ref a]) I1.kIn (hm i).kp (HX (us:=[.ref a]) (vs:=[.ref a]) (F i) hr (hb i) hx I1 (.cons rfl .nil) q)
end
end L2
namespace HT
open PySem PyProof.Rows
open PySem.SeqAt
open PySem.AutoSeq1 (wpAny_loadPart')
open PySem.MeetsSeq PySem.MeetsSeq2 PySem.MeetsSeq3
def K6 (A:bZ) (s:ar) (x y:af) (g:Bool):Prop:=∀ (prog:aL) (w:bN) (E:af->ar->Prop) (Q:af->ar->Prop),Q (.bool g) s->aW (bJ prog w) A (sP .Gt x y) Q E s
theorem HZ (l b:aa) (x y:af) (xs ys:List af) (n m:Nat) (dd de:Option aa) (sl sm:Array (Option af)) (g:Bool) :
  Meets (iX.«tuple.__gt__» ⟨[.ref l,.ref b],[]⟩)
   (fun A R s=>s.heap.get? l=some {cls:=.type "tuple",dict:=dd,data:=.seq (x :: xs).toArray n,slots:=sl}/\s.heap.get? b=some {cls:=.type "tuple",dict:=de,data:=.seq (y :: ys).toArray m,slots:=sm}/\EqAt A.in1 s x y false/\K6 A.in1 s x y g/\R (.ok (.ret (.bool g))) s):=
 .of_wp fun prog w A R s h=>by
  obtain ⟨hp,gg,d,tk,os⟩:=s;obtain ⟨hl,hb,he,hg,h⟩:=h;have f2:=lN
  wp_walk using dU hl,dU hb,qj _ (fun rest b s'=>b.1=none/\s'=⟨hp,gg,d,tk,os⟩/\∃ rest',rest=(x,y) :: rest') _
  case turn =>
   rintro ⟨y',x'⟩ rest b s' ⟨hb',rfl,rest',hz⟩;injection hz with hyx hrest;injection hyx with hy hx;subst hy hx;refine aq (he prog w _ _ ?_);have hri:∀ (E:af->ar->Prop) (Q:af->ar->Prop),Q (.bool g) ⟨hp,gg,d,tk,os⟩->aW (bJ prog w) A.in1 (sP .Gt _ _) Q E ⟨hp,gg,d,tk,os⟩:=fun E Q q=>hg prog w E Q q
   wp_walk using hri
   exact ⟨_,rfl,by simpa using h⟩
  case fin =>
   rintro ⟨b1,b2⟩ s' ⟨hb',rfl,rest',hz⟩
   cases hz
  case h =>
   exact ⟨rfl,rfl,xs.zip ys,by simp⟩
theorem gtAt_heads {A:bZ} {s:ar} {l b:aa} {x y:af} {xs ys:List af} {g:Bool} (hl:sh s.heap l (x :: xs).toArray) (hb:sh s.heap b (y :: ys).toArray) (hu:A.units < d8) (he:EqAt A.in1 s x y false) (hg:K6 A.in1 s x y g):K6 A s (.ref l) (.ref b) g:=fun prog w E Q h=>by
 obtain ⟨⟨c1,dd,t1,sl⟩,o1,rfl,n,rfl⟩:=id hl;obtain ⟨⟨c2,de,t2,sm⟩,o2,rfl,m,rfl⟩:=id hb;exact qG (op:=.Gt) ⟨_,o1,rfl⟩ ⟨_,o2,rfl⟩ yv xU (wL _ _) (HZ l b x y xs ys n m dd de sl sm g)
  ⟨o1,o2,he,hg,show Value.bool g≠Value.notImplemented/\Q (.bool g) s from ⟨(fun x=>nomatch x),h⟩⟩ hu
end HT
namespace L2
open PySem PySem.Spec PyProof.Rows
section
variable {X:Cx}
def rGtH:R2:=fun x y H Q=>∃ a b ka kb ns ms ra rb,x=.ref a/\y=.ref b/\H a=some (.tup (.ref ka :: ra))/\H b=some (.tup (.ref kb :: rb))/\H ka=some (.tup (ns.map V.int))/\H kb=some (.tup (ms.map V.int))/\ns≠ms/\Q (.bl (HT.lexLt ms ns)) H
theorem K7 (hu:X.A.units + 1 < d8):OpR X (dZ .Gt) rGtH:=by
 intro pins s σ H x y v u Q I rx ry h;obtain ⟨a,b,ka,kb,ns,ms,ra,rb,rfl,rfl,ha,hb,hka,hkb,ne,q⟩:=h
 cases rx
 cases ry;obtain ⟨its,r1,p1,_⟩:=I.tuple (SqT.of ha);obtain ⟨its2,r2,p2,_⟩:=I.tuple (SqT.of hb);obtain ⟨k1,s1,q1,_⟩:=I.tuple (SqT.of hka);obtain ⟨k2,s2,q2,_⟩:=I.tuple (SqT.of hkb);have i1:fv k1.toArray.toList ns:=intsAre_of s1;have i2:fv k2.toArray.toList ms:=intsAre_of s2;have hu1:X.A.in1.units < d8:=hu;have e:=wM (A:=X.A.in1) I.hok hu1 hka hkb;rw [decide_eq_false ne] at e
 cases r1 with
 | cons w1 r1 =>
  cases r2 with
  | cons w2 r2 =>
   cases w1
   cases w2;exact HT.gtAt_heads p1 p2 (by omega) e (fun prog w E Q h=>HT.gt_tup q1 q2 i1 i2 hu1 h) _ _ _ _ ⟨.bl (HT.lexLt ms ns),H,I,rfl,q⟩
end
end L2
namespace L2
open PySem PySem.W PyProof.Rows HT
def iO (a b:List Int):Prop:=lexLt b a=false
theorem iO.refl (a:List Int):iO a a:=Af a
theorem iO.trans {a b c:List Int} (h1:iO a b) (h2:iO b c):iO a c:=by
 unfold iO at *
 cases e:lexLt c a with
 | false=>rfl
 | true =>
  cases f:lexLt a b with
  | true =>
   rw [lx_trans e f] at h2
   cases h2
  | false =>
   rw [rC f h1] at e;rw [e] at h2
   cases h2
theorem iO.of_lt {a b:List Int} (h:lexLt a b=true):iO a b:=lx_asym h
theorem EY {a b c:List Int} (h:lexLt a b=true) (h2:iO b c):lexLt a c=true:=by
 cases e:lexLt a c with
 | true=>rfl
 | false =>
  have z:iO c a:=e;have y:=h2.trans z;unfold iO at y;rw [h] at y
  cases y
theorem iO.anti {a b:List Int} (h1:iO a b) (h2:iO b a):a=b:=rC h2 h1
def KR {α:Type} (r:Nat->List Int) (n:Nat):KasT α->(α->Prop)->Prop
 | .ret a,Q=>Q a
 | .ask i j k,Q=>(i < n/\j < n/\i≠j)/\KR r n (k (lexLt (r i) (r j))) Q
section
variable {r:Nat->List Int} {n:Nat}
theorem KR.bind {α β:Type} {f:α->KasT β} {Q:β->Prop}:∀ {t:KasT α},KR r n t (fun a=>KR r n (f a) Q)->KR r n (t.bind f) Q
 | .ret _,h=>h
 | .ask _ _ k,⟨h1,h3⟩=>⟨h1,KR.bind h3⟩
theorem KR.sound {α:Type} {cmp:Nat->Nat->(Bool->ar->Prop)->ar->Prop} {s:ar} {Q:α->Prop} (hc:∀ i j (C:Bool->ar->Prop),i < n->j < n->i≠j->C (lexLt (r i) (r j)) s->cmp i j C s):∀ {t:KasT α},KR r n t Q->t.kasWp cmp (fun a s'=>s'=s/\Q a) s
 | .ret _,h=>⟨rfl,h⟩
 | .ask i j k,⟨⟨h1,h2,h4⟩,h3⟩=>hc i j _ h1 h2 h4 (KR.sound hc h3)
theorem H9 {α:Type} {a b:KasT α} {Q:α->Prop} (h:KR r n a Q):KR r n (if true=true then a else b) Q:=by
 rw [if_pos rfl];exact h
theorem Ia {α:Type} {a b:KasT α} {Q:α->Prop} (h:KR r n b Q):KR r n (if false=true then a else b) Q:=by
 rw [if_neg (by simp)];exact h
def Rk (r:Nat->List Int) (p:Array Nat) (i:Nat):List Int:=r (p.getD i 0)
def Pm (n:Nat) (p:Array Nat):Prop:=p.Perm (ig n).toArray
theorem Pm.size {p:Array Nat} (h:Pm n p):p.size=n:=by
 have:=h.size_eq;simpa using this
theorem Pm.lt {p:Array Nat} (h:Pm n p) {i:Nat} (hi:i < n):p.getD i 0 < n:=by
 have hs:i < p.size:=by rw [h.size]; exact hi
 have e:p.getD i 0=p[i]:=by simp [oE,hs]
 rw [e];have m:p[i]∈p.toList:=by simp
 have z:=(iP.mp h).mem_iff.mp m;simpa using z
theorem Pm.two {p:Array Nat} (h:Pm n p) {i j:Nat} (hi:i < n) (hj:j < n) (ne:i≠j):p.getD i 0 < n/\p.getD j 0 < n/\p.getD i 0≠p.getD j 0:=by
 refine ⟨h.lt hi,h.lt hj,?_⟩;have nd:p.toList.Nodup:=(iP.mp h).nodup_iff.mpr (by simpa using List.nodup_range);have h1:i < p.size:=by rw [h.size]; exact hi
 have h2:j < p.size:=by rw [h.size]; exact hj
 have e1:p.getD i 0=p.toList[i]'(by simpa using h1):=by simp [oE,h1]
 have e2:p.getD j 0=p.toList[j]'(by simpa using h2):=by simp [oE,h2]
 rw [e1,e2];intro z
 rcases EZ ne with c | c
 ·exact dA.mp nd i j _ _ c z
 ·exact dA.mp nd j i _ _ c z.symm
theorem qK (p:Array Nat) (i:Nat):p.getD i 0=(p[i]?).getD 0:=by
 by_cases h:i < p.size
 ·simp [oE,h]
 ·simp [oE,h]
theorem Pm.rev {p:Array Nat} (h:Pm n p) (i j:Nat):Pm n (MV p i j):=(mirror_perm _ _ _ _).trans h
theorem Pm.bub {p:Array Nat} (h:Pm n p) (i j:Nat):Pm n (bubble p i j):=(bubble_perm _ _ _).trans h
theorem Ak {p:Array Nat} {i j:Nat} (hj:j<=p.size) (k:Nat):Rk r (MV p i j) k=if i<=k/\k < j then Rk r p (i + j - 1 - k) else Rk r p k:=by
 unfold Rk MV;rw [qK,getElem?_mirror_all hj,qK,qK]
 split <;> rfl
theorem E1 {p:Array Nat} {src d:Nat} (hs:src < p.size) (hd:d<=src) (k:Nat):Rk r (bubble p src d) k=if k=src - d then Rk r p src else if src - d < k/\k<=src then Rk r p (k - 1) else Rk r p k:=by
 unfold Rk;rw [qK,getElem?_bubble hs d hd,qK,qK,qK]
 repeat' split
 all_goals rfl
theorem sW {p:Array Nat} {i j:Nat} (hj:j<=p.size) (heq:∀ k,i<=k->k < j->Rk r p k=Rk r p (j - 1)) (k:Nat):Rk r (MV p i j) k=Rk r p k:=by
 rw [Ak hj]
 split
 ·rw [heq k (by omega) (by omega),heq _ (by omega) (by omega)]
 ·rfl
def Srt (r:Nat->List Int) (p:Array Nat) (m:Nat):Prop:=∀ i j,i<=j->j < m->iO (Rk r p i) (Rk r p j)
def Fal (r:Nat->List Int) (p:Array Nat) (m:Nat):Prop:=∀ i j,i<=j->j < m->iO (Rk r p j) (Rk r p i)
theorem Srt.one (p:Array Nat):Srt r p 1:=fun i j h1 h2=>by
 have:i=j:=by omega
 subst this;exact iO.refl _
theorem Srt.up {p:Array Nat} {x:Nat} (h1:1<=x) (h:Srt r p x) (l:iO (Rk r p (x - 1)) (Rk r p x)):Srt r p (x + 1):=fun i j hij hj=>by
 by_cases c:j < x
 ·exact h i j hij c
 ·have:j=x:=by omega
  subst this
  by_cases d:i=j
  ·subst d;exact iO.refl _
  ·exact (h i (j - 1) (by omega) (by omega)).trans l
theorem Fal.up {p:Array Nat} {x:Nat} (h1:1<=x) (h:Fal r p x) (l:iO (Rk r p x) (Rk r p (x - 1))):Fal r p (x + 1):=fun i j hij hj=>by
 by_cases c:j < x
 ·exact h i j hij c
 ·have:j=x:=by omega
  subst this
  by_cases d:i=j
  ·subst d;exact iO.refl _
  ·exact l.trans (h i (j - 1) (by omega) (by omega))
theorem Fal.eq {p p':Array Nat} {m:Nat} (e:∀ k,Rk r p' k=Rk r p k) (h:Fal r p m):Fal r p' m:=fun i j a b=>by
 rw [e,e];exact h i j a b
theorem Al {p:Array Nat} (hp:Pm n p) {N:Nat} (hN:N<=n) {Q:Nat->Prop} (h:∀ q,1<=q->q<=N->Srt r p q->(q=N\/lexLt (Rk r p q) (Rk r p (q - 1))=true)->Q q):∀ (f m:Nat),1<=m->m + f=N->Srt r p m->KR r n (kas_asc p f m) Q
 | 0,m,h1,hf,hs=>h m h1 (by omega) hs (.inl (by omega))
 | f + 1,m,h1,hf,hs=>by
  refine ⟨hp.two (by omega) (by omega) (by omega),?_⟩
  cases e:lexLt (r (p.getD m 0)) (r (p.getD (m - 1) 0)) with
  | true=>exact h m h1 (by omega) hs (.inr e)
  | false=>exact Al hp hN h f (m + 1) (by omega) (by omega) (hs.up h1 e)
theorem uG {N:Nat} (hN:N<=n) {Q:Array Nat×Nat×Nat->Prop} {m0:Nat} (h:∀ p m q,Pm n p->m0<=m->m<=N->Fal r p m->q + 1<=m->(∀ i,m - (q + 1)<=i->i < m->Rk r p i=Rk r p (m - 1))->Q (p,m,q)) :
  ∀ (f:Nat) (p:Array Nat) (m q:Nat),Pm n p->1<=m->m0<=m->m + f=N->Fal r p m->q + 1<=m->(∀ i,m - (q + 1)<=i->i < m->Rk r p i=Rk r p (m - 1))->KR r n (kas_desc f p m q) Q
 | 0,p,m,q,hp,h1,h0,hf,hs,hq,he=>h p m q hp h0 (by omega) hs hq he
 | f + 1,p,m,q,hp,h1,h0,hf,hs,hq,he=>by
  refine ⟨hp.two (by omega) (by omega) (by omega),?_⟩;have hsz:m<=p.size:=by rw [hp.size]; omega
  cases e:lexLt (r (p.getD m 0)) (r (p.getD (m - 1) 0)) with
  | true =>
   refine H9 ?_;have up:=hs.up h1 (iO.of_lt e)
   by_cases c:q > 0
   ·rw [if_pos c];exact uG hN h f _ (m + 1) 0 (hp.rev _ _) (by omega) (by omega) (by omega) (up.eq (sW hsz he)) (by omega) (fun i a b=>by congr 1; omega)
   ·rw [if_neg c];exact uG hN h f p (m + 1) 0 hp (by omega) (by omega) (by omega) up (by omega) (fun i a b=>by congr 1; omega)
  | false =>
   refine Ia ?_;refine ⟨hp.two (by omega) (by omega) (by omega),?_⟩
   cases d:lexLt (r (p.getD (m - 1) 0)) (r (p.getD m 0)) with
   | true =>
    refine H9 ?_;exact h p m q hp h0 (by omega) hs hq he
   | false =>
    refine Ia ?_;have eq:Rk r p m=Rk r p (m - 1):=rC e d;refine uG hN h f p (m + 1) (q + 1) hp (by omega) (by omega) (by omega) (hs.up h1 (by rw [eq]; exact iO.refl _)) (by omega) (fun i a b=>?_);rw [show m + 1 - 1=m by omega]
    by_cases c:i=m
    ·subst c;rfl
    ·rw [eq];exact he i (by omega) (by omega)
theorem y8 {N:Nat} (hN:N<=n) {Q:Nat×Array Nat->Prop} (h:∀ m p,Pm n p->1<=m->m<=N->Srt r p m->Q (m,p)) {p:Array Nat} {m:Nat} (hp:Pm n p) (h1:1<=m) (hm:m<=N) (hs:Fal r p m):KR r n (kas_tail3 m N p) Q:=by
 unfold kas_tail3;have hsz:m<=p.size:=by rw [hp.size]; omega
 refine KR.bind (Al (hp.rev 0 m) hN (fun q a b c _=>?_) (N - m) m h1 (by omega) fun i j hij hj=>?_)
 ·exact h q _ (hp.rev 0 m) a b c
 ·rw [Ak hsz,Ak hsz,if_pos (by omega),if_pos (by omega)];exact hs _ _ (by omega) (by omega)
theorem tV {N:Nat} (hN:N<=n) {Q:Nat×Array Nat->Prop} (h:∀ m p,Pm n p->1<=m->m<=N->Srt r p m->Q (m,p)) {p:Array Nat} {m:Nat} (hp:Pm n p) (hm:m + 1<=N) (hs:Fal r p (m + 1)):KR r n (kas_descPart m N p) Q:=by
 unfold kas_descPart;refine KR.bind (uG (m0:=m + 1) hN (fun p' m' q hp' a b hs' hq he=>?_) (N - (m + 1)) p (m + 1) 0 hp (by omega) (aE _) (by omega) hs (by omega) (fun i a b=>by congr 1; omega));dsimp only;have hsz:m'<=p'.size:=by rw [hp'.size]; omega
 by_cases c:q > 0
 ·rw [if_pos c];exact y8 hN h (hp'.rev _ _) (by omega) b (hs'.eq (sW hsz he))
 ·rw [if_neg c];exact y8 hN h hp' (by omega) b hs'
theorem E2 {Q:Nat×Array Nat->Prop} (h:∀ m p,Pm n p->1<=m->m<=n->Srt r p m->Q (m,p)) {p:Array Nat} (hp:Pm n p) (h1:1<=n):KR r n (kas_count n p) Q:=by
 unfold kas_count;refine KR.bind (Al hp (aE n) (fun m m1 mn hs hor=>?_) (n - 1) 1 (aE _) (by omega) (Srt.one p))
 by_cases c:m=n
 ·rw [if_pos (by simpa using c)];exact h m p hp m1 mn hs
 ·rw [if_neg (by simpa using c)];have hlt:=hor.resolve_left c
  by_cases g:m > 1
  ·rw [if_pos g];refine ⟨hp.two (by omega) (by omega) (by omega),?_⟩
   cases e:lexLt (r (p.getD 0 0)) (r (p.getD (m - 1) 0)) with
   | true =>
    refine H9 ?_;exact h m p hp m1 mn hs
   | false =>
    refine Ia ?_;have hsz:m<=p.size:=by rw [hp.size]; omega
    have hall:∀ k,0<=k->k < m->Rk r p k=Rk r p (m - 1):=fun k _ hk=>by
     have a1:=hs 0 k (by omega) hk;have a2:=hs k (m - 1) (by omega) (by omega);exact a2.anti (iO.trans (show iO (Rk r p (m - 1)) (Rk r p 0) from e) a1)
    refine tV (aE n) h (hp.rev _ _) (by omega) (Fal.eq (sW hsz hall) ?_);refine Fal.up (by omega) (fun i j hij hj=>?_) (iO.of_lt hlt);rw [hall i (by omega) (by omega),hall j (by omega) hj];exact iO.refl _
  ·rw [if_neg g];have:m=1:=by omega
   subst this;exact tV (aE n) h hp (by omega) (Fal.up (aE _) (fun i j a b=>by
    have:i=j:=by omega
    subst this;exact iO.refl _) (iO.of_lt hlt))
theorem vg {p:Array Nat} {k:Nat} (hp:Pm n p) (hk:k < n) (hs:Srt r p k) {Q:Nat->Prop} (h:∀ l,l<=k->(∀ i,i < l->iO (Rk r p i) (Rk r p k))->(∀ i,l<=i->i < k->lexLt (Rk r p k) (Rk r p i)=true)->Q l) :
  ∀ (f l q:Nat),l<=q->q<=k->q - l<=f->(∀ i,i < l->iO (Rk r p i) (Rk r p k))->(∀ i,q<=i->i < k->lexLt (Rk r p k) (Rk r p i)=true)->KR r n (kas_place p k f l q) Q
 | 0,l,q,a,b,c,lo,hi=>by
  have:l=q:=by omega
  subst this;exact h l b lo hi
 | f + 1,l,q,a,b,c,lo,hi=>by
  unfold kas_place
  by_cases d:l ≥ q
  ·rw [if_pos d];have:l=q:=by omega
   subst this;exact h l b lo hi
  ·rw [if_neg d];refine ⟨hp.two hk (by omega) (by omega),?_⟩
   cases e:lexLt (r (p.getD k 0)) (r (p.getD ((l + q) / 2) 0)) with
   | true =>
    refine H9 ?_;exact vg hp hk hs h f l _ (by omega) (by omega) (by omega) lo fun i h1 h2=>EY e (hs _ _ h1 h2)
   | false =>
    refine Ia ?_;exact vg hp hk hs h f _ q (by omega) (by omega) (by omega) (fun i h1=>(hs i ((l + q) / 2) (by omega) (by omega)).trans e) hi
theorem E3 {Q:Array Nat->Prop} (h:∀ p,Pm n p->Srt r p n->Q p):∀ (f:Nat) (p:Array Nat) (k:Nat),Pm n p->k + f=n->Srt r p k->KR r n (kas_bin f p k) Q
 | 0,p,k,hp,hf,hs=>h p hp (by rw [<- hf]; exact hs)
 | f + 1,p,k,hp,hf,hs=>by
  unfold kas_bin;refine KR.bind (vg hp (by omega) hs (fun l hl lo hi=>?_) k 0 k (bH _) (aE _) (by omega) (fun i h=>absurd h (by omega)) (fun i a b=>absurd b (by omega)));refine E3 h f _ (k + 1) (hp.bub _ _) (by omega) fun i j hij hj=>?_;have hks:k < p.size:=by rw [hp.size]; omega
  rw [E1 hks (by omega),E1 hks (by omega),show k - (k - l)=l by omega]
  repeat' split
  all_goals first
   |(exfalso; omega)
   | exact iO.refl _
   | exact lo _ (by omega)
   | exact iO.of_lt (hi _ (by omega) (by omega))
   | exact hs _ _ (by omega) (by omega)
theorem Ib (h1:1<=n):KR r n (kas_sort n) (fun p=>Pm n p/\Srt r p n):=by
 unfold kas_sort;refine KR.bind (E2 (fun m p hp m1 mn hs=>?_) (Array.Perm.refl _) h1);dsimp only
 by_cases c:m < n
 ·rw [if_pos c];refine E3 (fun p hp hs=>⟨hp,hs⟩) _ p (max m 1) hp (by omega) ?_;rw [show max m 1=m by omega];exact hs
 ·rw [if_neg c];have:m=n:=by omega
  subst this;exact ⟨hp,hs⟩
end
end L2
namespace L2
open PySem PySem.W PySem.Spec PyProof.Rows HT
section
variable {prog:aL} {w:bN} {A:bZ} {E:af->ar->Prop} {s:ar}
theorem uj {h0:cF} {a:aa} {vs:List af} {n:Nat} {b:Bool} {P:Fin->ar->Prop} {r:Nat->List Int} (ho:s.heap.get? a=some (dW "list" vs.toArray n)) (k0:∀ c o,h0.get? c=some o->s.heap.get? c=some o) (ha0:h0.get? a=none) (h2:2<=vs.length) (h64:vs.length < 64)
  (hk:∀ h':cF,(∀ c o,h0.get? c=some o->h'.get? c=some o)->∀ Q:SortKind->ar->Prop,Q (zF false) {s with heap:=h'}->aW (bJ prog w) A (keyKind' vs.toArray) Q E {s with heap:=h'})
  (hc:∀ h':cF,(∀ c o,h0.get? c=some o->h'.get? c=some o)->∀ i j (C:Bool->ar->Prop),i < vs.length->j < vs.length->i≠j->C (lexLt (r i) (r j)) {s with heap:=h'}->kas_ask prog w A (zF false) (kY b vs) i j C {s with heap:=h'})
  (h:∀ p,Pm vs.length p->Srt r p vs.length->P (.done (.ret .none)) {s with heap:=sortedHeap s.heap a vs (tW (kY b (p.toList.map fun i=>(kY b vs).getD i Value.none)))}) :
  aW (bJ prog w) A (iX.«list.sort» ⟨[.ref a],[(jR "reverse",.bool b)]⟩) P E s:=by
 rw [list_sort_rev];have ha:a < s.heap.objs.size:=aM ho;refine aq (listItems_at ho rfl ?_);refine aq (uE ho rfl ?_);obtain ⟨e1,ho1⟩:∃ e1,(s.heap.update a (df fun _=>#[])).get? a=some (dW "list" #[] e1):=⟨_,get?_update_seq ho (fun _=>#[])⟩;refine aq (yw ho1 rfl ?_);refine aq (wpAny_newTuple ?_);refine aq (uF ?_);refine dD ?_;have ho6:(((s.heap.update a (df fun _=>#[])).push (dW "tuple" vs.toArray 0)).push (dW "list" #[] 0)).get? a=some (dW "list" #[] e1):=by
  rw [gj _ _ _ (by rw [ve,gG]; exact aN (jS ha)),gj _ _ _ (by rw [gG]; exact aN ha)];exact ho1
 have old6:∀ c o,h0.get? c=some o->(((s.heap.update a (df fun _=>#[])).push (dW "tuple" vs.toArray 0)).push (dW "list" #[] 0)).get? c=some o:=fun c o e=>by
  have lt:c < s.heap.objs.size:=aM (k0 c o e);have ne:c≠a:=fun z=>by
   rw [z,ha0] at e
   cases e
  rw [gj _ _ _ (by rw [ve,gG]; exact aN (jS lt)),gj _ _ _ (by rw [gG]; exact aN lt),CO _ _ _ _ ne];exact k0 c o e
 show aW (bJ prog w) A _ P E {s with heap:=((s.heap.update a (df fun _=>#[])).push (dW "tuple" vs.toArray 0)).push (dW "list" #[] 0)};dsimp only;have step:∀ t:Sem Fin,aW (bJ prog w) A t P E {s with heap:=((s.heap.update a (df fun _=>#[])).push (dW "tuple" vs.toArray 0)).push (dW "list" #[] 0)} ->
   aW (bJ prog w) A (if b=true then (do let _ <- Hq "list.sort.reverse"; t) else t) P E {s with heap:=((s.heap.update a (df fun _=>#[])).push (dW "tuple" vs.toArray 0)).push (dW "list" #[] 0)}:=by
  intro t ht
  split
  ·exact aq (Ad ht)
  ·exact ht
 refine step _ ?_;have h2':¬ vs.toArray.size < 2:=by
  rw [aB];omega
 rw [if_neg h2',if_neg h2'];refine aq (hk _ old6 _ ?_);rw [kat_pairs b rfl];have el:=kat_len b vs;refine aq (eN (kat_run (ks:=kY b vs) (vs:=kY b vs) (κ:=zF false) (Q:=fun st' s'=>∃ p:Array Nat,arrOf st'=p.map (kas_item ((kY b vs).toArray.zip (kY b vs).toArray))/\failedOf st'=none/\s'={s with heap:=((s.heap.update a (df fun _=>#[])).push (dW "tuple" vs.toArray 0)).push (dW "list" #[] 0)}/\Pm vs.length p/\Srt r p vs.length) (G:=fun p s'=>s'={s with heap:=((s.heap.update a (df fun _=>#[])).push (dW "tuple" vs.toArray 0)).push (dW "list" #[] 0)}/\Pm vs.length p/\Srt r p vs.length) rfl (by rw [el]; exact h2) (by rw [el]; exact h64) (fun p st' s' hp har hf hg=>⟨p,har,hf,hg⟩) (by
  rw [el];exact KR.sound (hc _ old6) (Ib (by omega)))) ?_ fun _ _ e=>e)
 rintro ⟨⟨⟩,st'⟩ s' ⟨p,har,hf,rfl,hpm,hsr⟩;dsimp only;have out:=kat_snds (ks:=kY b vs) (vs:=kY b vs) rfl har;refine aq (yw ho6 rfl ?_);rw [out,kat_outs];have lp:(kY b (p.toList.map fun i=>(kY b vs).getD i Value.none)).length < 64:=by
  rw [kat_len,ai,gs,hpm.size];exact h64
 refine aq (uE ho6 rfl ?_ (hsz2:=by rw [aB,oJ]; omega));rw [hf];simp only [bne_self_eq_false,jv,if_false];exact aP (h p hpm hsr)
theorem sorted_N {l:aa} {vs:List af} {b:Bool} {Q:af->ar->Prop} {r:Nat->List Int} (hl:s.heap.IsList l vs.toArray) (h2:2<=vs.length) (h64:vs.length < 64)
  (hk:∀ (A':bZ) (E:af->ar->Prop) (h':cF),A'.units<=A.units + 2->(∀ c o,s.heap.get? c=some o->h'.get? c=some o)->∀ Q:SortKind->ar->Prop,Q (zF false) {s with heap:=h'}->aW (bJ prog w) A' (keyKind' vs.toArray) Q E {s with heap:=h'})
  (hc:∀ (A':bZ) (h':cF),A'.units<=A.units + 2->(∀ c o,s.heap.get? c=some o->h'.get? c=some o)->∀ i j (C:Bool->ar->Prop),i < vs.length->j < vs.length->i≠j->C (lexLt (r i) (r j)) {s with heap:=h'}->kas_ask prog w A' (zF false) (kY b vs) i j C {s with heap:=h'})
  (h:∀ p,Pm vs.length p->Srt r p vs.length->Q (.ref (s.heap.objs.size + 1)) {s with heap:=DI s.heap vs (tW (kY b (p.toList.map fun i=>(kY b vs).getD i Value.none)))}) :
  aW (bJ prog w) A (xr (.builtin "sorted") [.ref l] [(jR "reverse",.bool b)]) Q E s:=by
 refine EX kind_sorted plain_sorted entry_sorted (args_sorted_rev _ _) ?_;unfold iX.«sorted»;refine aq (m:=checkCount "sorted" 1 1 _) (aP ?_);refine aq (collect_list hl ?_);refine aq (uF ?_);have hsz:((s.heap.push (dW "list" #[] 0)).update s.heap.objs.size (df (·++vs.toArray))).objs.size=s.heap.objs.size + 1:=by
  rw [gG,ve]
 have hoL:(((s.heap.push (dW "list" #[] 0)).update s.heap.objs.size (df (·++vs.toArray))).push (dW "list" vs.toArray 0)).get? (s.heap.objs.size + 1)=some (dW "list" vs.toArray 0):=by
  rw [<- hsz]; exact cz _ rfl
 have k0:∀ c o,s.heap.get? c=some o->(((s.heap.push (dW "list" #[] 0)).update s.heap.objs.size (df (·++vs.toArray))).push (dW "list" vs.toArray 0)).get? c=some o:=fun c o e=>by
  have lt:c < s.heap.objs.size:=aM e;rw [gj _ _ _ (by rw [hsz]; exact aN (jS lt)),CO _ _ _ _ (aN lt),gj _ _ _ (aN lt)];exact e
 have a0:s.heap.get? (s.heap.objs.size + 1)=none:=by
  cases e:s.heap.get? (s.heap.objs.size + 1) with
  | none=>rfl
  | some o =>
   have:=aM e;exact absurd this (Nat.not_lt.mpr (gc _))
 show aW _ _ _ _ _ {s with heap:=((s.heap.push (dW "list" #[] 0)).update s.heap.objs.size (df (·++vs.toArray))).push (dW "list" vs.toArray 0)};rw [hsz];refine aq (dD (JC slot_list_sort ⟨_,hoL,rfl⟩ entry_list_sort (uj (h0:=s.heap) (r:=r) hoL k0 a0 h2 h64 (fun h' k Q q=>hk _ _ h' (aE _) k Q q) (fun h' k i j C hi hj ne q=>hc _ h' (aE _) k i j C hi hj ne q) fun p a1 a2=>⟨_,rfl,?_⟩) (K4 _ _)));exact aP ⟨_,rfl,h p a1 a2⟩
end
def Am (H:Hp) (z:V×List Int):Prop:=∃ a k ra,z.1=.ref a/\H a=some (.tup (.ref k :: ra))/\H k=some (.tup (z.2.map V.int))
theorem sX:∀ {xs:List V} {its:List af},cX xs its->∀ (i:Nat),i < xs.length->∃ v,its.getD i Value.none=v/\∃ x,xs[i]?=some x/\RelV x v
 | _,_,.nil,i,h=>absurd h (by simp)
 | _,_,.cons a b,0,h=>⟨_,rfl,_,rfl,a⟩
 | _,_,.cons a b,i + 1,h=>by
  obtain ⟨v,e,x,h1,h2⟩:=sX b i (by simpa using h);exact ⟨v,by simpa using e,x,by simpa using h1,h2⟩
theorem wO {xs:List V} {its:List af} (h:cX xs its) (d:V):∀ (is:List Nat),(∀ i∈is,i < xs.length)->cX (is.map fun i=>(xs.getD i d)) (is.map fun i=>its.getD i Value.none)
 | [],_=>.nil
 | i :: is,hb=>by
  obtain ⟨v,e,x,h1,h2⟩:=sX h i (hb i aD);refine .cons ?_ (wO h d is fun j hj=>hb j (ah _ hj));show RelV (xs.getD i d) (its.getD i Value.none);rw [e,dP,h1];exact h2
theorem An {α:Type} (l:List α) (d:α):(ig l.length).map (fun i=>l.getD i d)=l:=by
 apply jN;intro i;rw [bS]
 by_cases h:i < l.length
 ·rw [List.getElem?_range h,E4,dP,aj h];rfl
 ·rw [cT (by simpa using h),cT (by omega)];rfl
def oF:V×List Int:=(.non,[])
theorem E5 {zs:List (V×List Int)} (nd:(zs.map (·.2)).Nodup) {p:Array Nat} (hp:Pm zs.length p) (hs:Srt (fun i=>(zs.reverse.getD i oF).2) p zs.length) :
  ((p.toList.map fun i=>zs.reverse.getD i oF).reverse).Perm zs/\((p.toList.map fun i=>zs.reverse.getD i oF).reverse).Pairwise (fun a b=>HT.lexLt b.2 a.2=true):=by
 have pl:p.toList.Perm (ig zs.length):=by simpa using iP.mp hp
 have pm:(p.toList.map fun i=>zs.reverse.getD i oF).Perm zs:=by
  refine (pl.map _).trans ?_;have e:=An zs.reverse oF;rw [i9] at e;rw [e];exact tX _
 refine ⟨(tX _).trans pm,List.pairwise_reverse.mpr (dA.mpr fun i j hi hj hij=>?_)⟩;have nd2:((p.toList.map fun i=>zs.reverse.getD i oF).map (·.2)).Nodup:=(pm.map _).nodup_iff.mpr nd;have li:i < zs.length:=by
  have:=pm.length_eq;omega
 have lj:j < zs.length:=by
  have:=pm.length_eq;omega
 have at_:∀ k (h:k < (p.toList.map fun i=>zs.reverse.getD i oF).length),(p.toList.map fun i=>zs.reverse.getD i oF)[k].2=Rk (fun i=>(zs.reverse.getD i oF).2) p k:=fun k h=>by
  have hk:k < p.size:=by simpa using h
  unfold Rk;simp [oE,hk]
 have le:=hs i j (lF hij) lj;have ne:=dA.mp nd2 i j (by simpa using hi) (by simpa using hj) hij;rw [at_ i hi,at_ j hj];refine lx_of_not le fun z=>ne ((hW _).trans (Eq.trans ?_ (hW _).symm));rw [at_ i hi,at_ j hj];exact z.symm
section
variable {X:Cx} {e:cZ} {t:TA} {p pos kp bp:Pos} {j:Nat}
def K8 (t:TA):TE:=fun σ H Q=>t σ H fun vs H1=>∃ (p:aa) (zs:List (V×List Int)),vs=[.ref p]/\H1 p=some (.lst (zs.map (·.1)))/\(∀ z∈zs,Am H1 z)/\(zs.map (·.2)).Nodup/\zs.length < 64 /\
 ∀ (l:aa) (zs':List (V×List Int)),H1 l=none->zs'.Perm zs->zs'.Pairwise (fun a b=>HT.lexLt b.2 a.2=true)->Q (.ref l) (upd H1 l (.lst (zs'.map (·.1))))
theorem wQ {s:ar} {H:Hp} {P:aL} {w:bN} (ok:HOk P w H s.heap):∀ {zs:List (V×List Int)} {its:List af},cX (zs.map (·.1)) its->(∀ z∈zs,Am H z)->∃ fs,KatTups s.heap its fs/\fs.length=its.length/\∀ f∈fs,∃ k o,f=.ref k/\s.heap.get? k=some o/\o.cls=.type "tuple"
 | [],_,r,_=>by
  cases r;exact ⟨[],KatTups.nil,rfl,fun f hf=>by cases hf⟩
 | z :: zs,_,r,hz=>by
  cases r with
  | cons a b =>
   obtain ⟨fs,h1,h2,h3⟩:=wQ ok b fun z hz'=>hz z (ah _ hz');obtain ⟨ad,k,ra,e1,e2,e3⟩:=hz z aD;have a:RelV z.1 _:=a;rw [e1] at a
   cases a;obtain ⟨us,r1,o1,g1,c1,n1,d1⟩:=fi ok e2;obtain ⟨ws,r2,o2,g2,c2,n2,d2⟩:=fi ok e3
   cases r1 with
   | cons a1 b1 =>
    cases a1;refine ⟨.ref k :: fs,KatTups.cons g1 c1 d1 rfl h1,by rw [aR,aR,h2],fun f hf=>?_⟩
    rcases ay.mp hf with y | y
    ·exact ⟨k,o2,y,g2,c2⟩
    ·exact h3 f y
theorem E6 {ke:cZ} (hu:X.A.units + 5 < d8) (hg:Gl X "sorted") (hm:X.mg "sorted"=none) (ha:PA X [e] t) (hk:PE X ke (tC (.bl true))) (he:jd pos (cM [e] X.env)=[(false,fy e X.env)]:=by rfl)
  (hall:(nC pos (je [⟨some "reverse",ke,kp⟩] X.env)).all (·.1.isSome)=true:=by rfl) (hkw:(nC pos (je [⟨some "reverse",ke,kp⟩] X.env)).any (·.1.isNone)=false:=by rfl)
  (hnm:(nC pos (je [⟨some "reverse",ke,kp⟩] X.env)).filterMap (·.1)=[jR "reverse"]:=by rfl) :
  PE X (.Call (.Name "sorted" p) [e] [⟨some "reverse",ke,kp⟩] pos) (K8 t):=by
 intro pins s σ H Q I h;refine iD (sj I hg hm boot_sorted ?_);refine callWith_kw (thn (ha pos pins s σ H _ I h) fun us s1 ⟨vs,H1,I1,r1,q1⟩=>?_) (by rw [he]; rfl) (by rw [he]; rfl) hall hkw;obtain ⟨l,zs,rfl,hl,hz,nd,h64,q⟩:=q1;obtain ⟨u,rfl,ru⟩:=vals1 r1
 cases ru;refine kws_cons (thn (hk pins s1 σ H1 (fun v H2=>v=.bl true/\H2=H1) I1 (show _/\_ from ⟨rfl,rfl⟩)) fun v s2 hk2=>kws_nil ?_);obtain ⟨y,H2,I2,r2,e1,e2⟩:=hk2;subst e1 e2
 cases r2;rw [hnm];obtain ⟨its,n,rv,ho,hzz⟩:=I2.lst hl;have hlen:=rv.length;rw [ai] at hlen;show aW _ _ (xr (.builtin "sorted") [.ref l] [(jR "reverse",.bool true)]) _ _ _
 by_cases c:its.length < 2
 ·refine Aj (l:=l) (vs:=its) ⟨_,ho,rfl,n,rfl⟩ c ?_;obtain ⟨ep,he'⟩:=sortedAll_at s2.heap its its.toArray;have two:2<=au:=by decide
  have z:=I2.laid (a:=s2.heap.objs.size + 1) (o:=.lst (zs.map (·.1))) (t':=s2.toks) (fun _ _=>sortedAll_old) (gc _) (h':=DI s2.heap its its.toArray) ⟨by rw [ai]; omega,its,ep,rv,he'⟩;refine ⟨.ref (s2.heap.objs.size + 1),_,z,rfl,q _ zs (I2.hok.fresh (gc _)) (jt _) ?_⟩
  match zs,hlen with
  | [],_=>exact List.Pairwise.nil
  | [_],_=>exact oz _ _
  | _ :: _ :: _,hlen=>exact absurd c (by rw [<- hlen]; simp)
 ·have crev:∀ {α:Type} (l:List α),kY true l=l.reverse:=fun l=>rfl;refine sorted_N (l:=l) (vs:=its) (r:=fun i=>(zs.reverse.getD i oF).2) ⟨_,ho,rfl,n,rfl⟩ (by omega) (by omega) (fun A' E' h' hA k Q' q'=>?_) (fun A' h' hA k i j C hi hj ne q'=>?_) fun p hp hs=>?_
  ·have I3:=(I2.kept (t':=s2.toks) k).hok;obtain ⟨fs,h1,h2,h3⟩:=wQ (s:={s2 with heap:=h'}) I3 rv hz;refine kat_kind (T:=.type "tuple") h1 (by omega) (fun v hv=>?_) (by rfl) ?_
   ·obtain ⟨kk,o,rfl,g,cl⟩:=h3 v hv;rw [<- cl];exact (Looks.ld g).andThen .now
   ·exact q'
  ·have I3:=(I2.kept (t':=s2.toks) k).hok;have vr:=rv.reverse;rw [<- uH] at vr;have at_:∀ m,m < its.length->∃ (a kk:aa) (us ws:List af),its.reverse.getD m Value.none=.ref a/\sh h' a (.ref kk :: us).toArray/\sh h' kk ws.toArray/\fv ws (zs.reverse.getD m oF).2/\H2 kk=some (.tup ((zs.reverse.getD m oF).2.map V.int)):=fun m hm=>by
    have hm':m < zs.reverse.length:=by rw [i9]; omega
    obtain ⟨v,ev,x,hx,rx⟩:=sX vr m (by rw [ai]; exact hm');rw [bS,aj hm'] at hx
    cases hx;have ez:zs.reverse.getD m oF=zs.reverse[m]:=by rw [dP,aj hm']; rfl
    obtain ⟨ad,kk,ra,e1,e2,e3⟩:=hz _ (List.mem_reverse.mp (gH hm'));have rx:RelV (zs.reverse[m]).1 v:=rx;rw [e1] at rx
    cases rx;obtain ⟨us,r1,t1⟩:=fi (s:={s2 with heap:=h'}) I3 e2;obtain ⟨ws,r2,t2⟩:=fi (s:={s2 with heap:=h'}) I3 e3
    cases r1 with
    | cons a1 b1 =>
     cases a1;exact ⟨ad,kk,_,ws,ev,t1,t2,by rw [ez]; exact intsAre_of r2,by rw [ez]; exact e3⟩
   obtain ⟨a1,k1,us1,ws1,g1,t1,u1,i1,m1⟩:=at_ i hi;obtain ⟨a2,k2,us2,ws2,g2,t2,u2,i2,m2⟩:=at_ j hj;have neK:(zs.reverse.getD i oF).2≠(zs.reverse.getD j oF).2:=by
    have nd2:((zs.reverse).map (·.2)).Nodup:=((tX zs).map _).nodup_iff.mpr nd;have h1:i < zs.reverse.length:=by rw [i9]; omega
    have h2:j < zs.reverse.length:=by rw [i9]; omega
    rw [dP,aj h1,dP,aj h2];show (zs.reverse[i]).2≠(zs.reverse[j]).2
    rcases EZ ne with c | c
    ·exact fun z=>dA.mp nd2 i j (by simpa using h1) (by simpa using h2) c ((hW _).trans (z.trans (hW _).symm))
    ·exact fun z=>dA.mp nd2 j i (by simpa using h2) (by simpa using h1) c ((hW _).trans (z.symm.trans (hW _).symm))
   have eq:=wM (s:={s2 with heap:=h'}) (A:=A') I3 (by omega) m1 m2;rw [decide_eq_false neK] at eq;show aW _ A' (keyLt' (zF false) (its.reverse.getD i Value.none) (its.reverse.getD j Value.none)) C _ _;rw [g1,g2];obtain ⟨o1,y1,_,n1,d1⟩:=id t1;obtain ⟨o2,y2,_,n2,d2⟩:=id t2;refine kat_lt (s:={s2 with heap:=h'}) y1 d1 y2 d2 (kat_cons (eq _ _ _ _ (kat_no (kat_one _ _ (HT.lt_tupInts u1 u2 i1 i2 (by omega) q')))))
  ·have hp':Pm zs.length p:=by rw [hlen]; exact hp
   obtain ⟨pk1,pk2⟩:=E5 nd hp' (by rw [hlen]; exact hs);have vr:=rv.reverse;rw [<- uH] at vr;have vo:=(wO vr V.non p.toList fun i hi=>by
    rw [ai,i9];have:=(iP.mp hp').mem_iff.mp hi;simpa using this).reverse
   have ev:(p.toList.map fun i=>(zs.reverse.map (·.1)).getD i V.non).reverse=((p.toList.map fun i=>zs.reverse.getD i oF).reverse).map (·.1):=by
    refine Eq.trans ?_ uH.symm;rw [eg]
    congr 1
    refine jc fun i _=>?_;show (zs.reverse.map (·.1)).getD i V.non=(zs.reverse.getD i oF).1;rw [dP,bS,dP]
    cases zs.reverse[i]? <;> rfl
   rw [ev] at vo;obtain ⟨ep,he'⟩:=sortedAll_at s2.heap its (tW (p.toList.map fun i=>its.reverse.getD i Value.none).reverse);have z:=I2.laid (a:=s2.heap.objs.size + 1) (o:=.lst (((p.toList.map fun i=>zs.reverse.getD i oF).reverse).map (·.1))) (t':=s2.toks) (fun _ _=>sortedAll_old) (gc _) (h':=DI s2.heap its (tW (p.toList.map fun i=>its.reverse.getD i Value.none).reverse)) ⟨by
    rw [ai,pk1.length_eq];have:64<=au:=by decide
    omega,_,ep,vo,he'⟩
   exact ⟨.ref (s2.heap.objs.size + 1),_,z,rfl,q _ _ (I2.hok.fresh (gc _)) pk1 pk2⟩
end
end L2
namespace PySem
open SeqAt MeetsSeq MeetsSeq2 MeetsSeq3 SeqRoads2
section
variable {prog:aL} {w:bN} {A:bZ} {s:ar}
variable {K:Type} [DecidableEq K] {knd:KeyKind prog w K}
end
end PySem
namespace L2
open PySem PySem.Spec PyProof.Rows PySem.SeqAt
section
variable {X:Cx}
end
end L2
namespace L2
open PySem PySem.Spec PyProof.Rows
section
variable {X:Cx}
theorem vh:∀ {ys:List Str} {us:List af},cX (ys.map V.str) us->StrsAre us ys
 | [],_,.nil=>.nil
 | _ :: _,_,.cons ⟨t,e⟩ r=>e ▸ .cons _ t (vh r)
def jsz (z:Str) (ys:List Str):Nat:=(ys.map fun x=>x.length).sum + ys.length * z.length
def rJoin (K:ae):V->List V->Hp->VK->Prop:=fun x vs H Q=>∃ z l ys,x=.str z/\vs=[.ref l]/\(SqL K H l (ys.map V.str)\/SqT K H l (ys.map V.str))/\jsz z ys<=16777216/\Q (.str (CQ z ys)) H
theorem Ic:MtR X "str.join" (rJoin X.K):=by
 intro pins s σ H x vs v us Q I rx rv h;obtain ⟨z,l,ys,rfl,rfl,hl,hz,q⟩:=h;obtain ⟨t,rfl⟩:=rx;obtain ⟨u,rfl,ru⟩:=rv.one
 cases ru
 rcases hl with hl | hl
 ·obtain ⟨its,r,pl,_⟩:=I.list hl;exact join_list pl.isList (by simpa using vh r) hz fun t' k=>⟨.str _,H,I.tok _,⟨_,rfl⟩,q⟩
 ·obtain ⟨its,r,pl,_⟩:=I.tuple hl;exact join_tuple pl (by simpa using vh r) hz fun t' k=>⟨.str _,H,I.tok _,⟨_,rfl⟩,q⟩
theorem qL (hu:X.A.units + 50 < d8):OpR X (dZ .NotEq) (fun x y H Q=>∃ p q xs,x=.ref p/\y=.ref q/\H p=some (.lst xs)/\H q=some (.lst [])/\Q (.bl (!xs.isEmpty)) H):=by
 intro pins s σ H x y v u Q I rx ry h;obtain ⟨p,q,xs,rfl,rfl,h1,h2,k⟩:=h
 cases xs with
 | nil=>exact KW hu pins s σ H _ _ v u Q I rx ry ⟨1,p,q,by omega,rfl,rfl,.inr (.inl ⟨p,q,[],[],rfl,rfl,h1,h2,.nil⟩),k⟩
 | cons a xs =>
  cases rx
  cases ry;obtain ⟨us,r1,i1⟩:=e9 I.hok h1;obtain ⟨vs,r2,i2⟩:=e9 I.hok h2
  cases r2;have hl:=r1.length;exact SeqAt.RcNeAt.lists_lengths i1 i2 (by
   cases us with
   | nil=>cases hl
   | cons b us=>simp) (by omega) X.prog X.w _ _ ⟨.bl true,H,I,rfl,k⟩
end
section
variable {X:Cx}
end
theorem E7 {n m:Nat} {g:TG} {tc:TT} {te:TE} {σ:St} {H:Hp} {Q:VK} (Pv:Nat->List V->Hp->Prop) (h0:Pv 0 [] H) (hl:∀ i ys H,i<=m->Pv i ys H->ys.length < au)
  (hs:∀ i ys H,i < m->Pv i ys H->g (.int (0 + i)) (cH n none++σ) H fun σ2 H2=>σ2.drop n=σ/\tc σ2 H2 fun b H3=>if b=true then te σ2 H3 fun y H4=>Pv (i + 1) (ys++[y]) H4 else Pv (i + 1) ys H3)
  (hd:∀ ys H,Pv m ys H->∀ p,H p=none->Q (.ref p) (upd H p (.lst ys))) :
  ∃ W:Nat->Nat->List V->Hp->Prop,(∃ k,W 0 k [] H)/\∀ i k ys H,W i k ys H->ys.length < au/\(((Itr 0 m).stop i H/\∀ p,H p=none->Q (.ref p) (upd H p (.lst ys))) \/
   ((Itr 0 m).go i H/\∃ N:List V->Hp->Prop,(∀ ys' H',N ys' H'->∃ k',k' < k/\W (i + 1) k' ys' H')/\∀ x H',(Itr 0 m).yld i H x H'->g x (cH n none++σ) H' fun σ2 H2=>σ2.drop n=σ/\tc σ2 H2 fun b H3 =>
    if b=true then te σ2 H3 fun y H4=>N (ys++[y]) H4 else N ys H3)):=by
 refine ⟨fun i k ys H=>k=m - i/\i<=m/\Pv i ys H,⟨m,by simp,bH _,h0⟩,?_⟩;rintro i k ys H ⟨rfl,hi,pv'⟩;refine ⟨hl i ys H hi pv',?_⟩
 by_cases lt:i < m
 ·refine .inr ⟨lt,Pv (i + 1),fun ys' H' p'=>⟨m - (i + 1),by omega,rfl,lt,p'⟩,fun x H' y=>?_⟩;obtain ⟨e,y⟩:=y;subst e y;exact hs i ys _ lt pv'
 ·have e:i=m:=by omega
  subst e;exact .inl ⟨aE _,hd ys H pv'⟩
end L2
namespace My
open PySem L2
def top (i:Nat):dJ:=PySem.Challenge.pw_momentloom_k61_books_bent.main.body.getD i (.Pass ⟨0,0,0,0⟩)
abbrev md:dJ:=gF (top 3) 0
abbrev nJ:dJ:=gF (top 4) 0
abbrev pj:dJ:=gF (top 5) 0
abbrev qM:dJ:=gF (top 6) 0
abbrev pA:dJ:=gF (top 7) 0
abbrev pB:dJ:=gF (top 8) 0
abbrev kZ:dJ:=top 10
abbrev gz:dJ:=top 11
abbrev gO:dJ:=top 12
abbrev d9:dJ:=top 13
abbrev nK:dJ:=gF (top 15) 0
abbrev ji:dJ:=gF (top 15) 1
abbrev eX:dJ:=gF (top 15) 2
abbrev eQ:dJ:=gF (top 15) 3
abbrev gT:dJ:=gF (top 15) 4
abbrev xV:dJ:=top 16
abbrev nU:dJ:=top 17
abbrev ia:dJ:=top 18
abbrev lP:dJ:=top 19
abbrev iH:dJ:=top 20
abbrev mJ:dJ:=top 21
abbrev mK:dJ:=top 22
abbrev mO:dJ:=top 23
abbrev mP:dJ:=top 24
abbrev mQ:dJ:=top 25
abbrev mR:dJ:=top 27
abbrev nV:dJ:=gF (top 28) 0
abbrev jB:dJ:=gF (top 29) 0
abbrev jC:dJ:=gF (top 29) 1
abbrev jV:dJ:=top 30
abbrev nX:dJ:=top 32
abbrev rD:dJ:=top 33
abbrev pC:dJ:=gF (top 35) 0
abbrev gE:dJ:=top 36
abbrev me:dJ:=gF (top 37) 0
abbrev gk:dJ:=gF (top 37) 2
abbrev ic:dJ:=gF (top 37) 3
abbrev gU:dJ:=top 38
abbrev rE:dJ:=top 39
abbrev rF:dJ:=top 40
abbrev p0:dJ:=top 42
abbrev lQ:dJ:=top 44
abbrev eO:dJ:=top 45
abbrev jj:dJ:=top 46
abbrev jm:dJ:=top 48
abbrev gP:dJ:=top 49
abbrev hV:dJ:=top 50
abbrev eP:dJ:=top 51
abbrev lr:dJ:=top 52
abbrev mT:dJ:=top 53
abbrev iQ:dJ:=top 54
abbrev jD:dJ:=top 55
abbrev nY:dJ:=top 56
abbrev Bn:dJ:=top 57
structure Df (K:ae) (mg:Str->Option af) (x:Str) (st:dJ) (ps:List Str) (f:aa) (fd:cw):Prop where
 F:Fun K x x st f fd
 b:Binds K fd ps []
 m:mg x=some (.ref f)
structure Bl (mg:Str->Option af):Prop where
 len:mg "len"=none
 abs:mg "abs"=none
 isi:mg "isinstance"=none
 list:mg "list"=none
 tuple:mg "tuple"=none
 str:mg "str"=none
 int:mg "int"=none
 bool:mg "bool"=none
 range:mg "range"=none
 max:mg "max"=none
 dict:mg "dict"=none
theorem boot_abs:gf "abs"=some (.builtin "abs"):=by decide +kernel
theorem pD:gf "isinstance"=some (.builtin "isinstance"):=by decide +kernel
theorem boot_list:gf "list"=some (.type "list"):=by decide +kernel
theorem boot_tuple:gf "tuple"=some (.type "tuple"):=by decide +kernel
theorem boot_int:gf "int"=some (.type "int"):=by decide +kernel
theorem boot_dict:gf "dict"=some (.type "dict"):=by decide +kernel
def But (p:aa) (H H':Hp):Prop:=∀ b o,H b=some o->b≠p->H' b=some o
theorem But.refl (p:aa) (H:Hp):But p H H:=fun _ _ e _=>e
theorem But.trans {p:aa} {H H1 H2:Hp} (a:But p H H1) (b:But p H1 H2):But p H H2:=fun c o e n=>b c o (a c o e n) n
theorem But.upd (p:aa) (H:Hp) (o:HO):But p H (upd H p o):=fun b u e n=>by rw [aK n]; exact e
theorem But.same {p:aa} {H H1 H2:Hp} (a:But p H H1) (b:bj H1 H2):But p H H2:=fun c o e n=>b c o (a c o e n)
theorem aA {H:Hp} {p:aa} (h:H p=none) (o:HO):bj H (upd H p o):=fun b u q=>by rw [aK (aG q h)]; exact q
theorem kd {c:Prop} [Decidable c] (h:decide c=true):c:=of_decide_eq_true h
theorem kA {c:Prop} [Decidable c] (h:¬ decide c=true):¬ c:=fun z=>h (decide_eq_true z)
theorem lt2:2<=au:=by decide
theorem lt5:5<=au:=by decide
def Ao:V->Prop
 | .int _=>True
 | .str _=>True
 | _=>False
def Tree (H:Hp):Nat->V->Prop
 | 0,v=>Ao v
 | n + 1,v=>Ao v\/∃ p xs,v=.ref p/\(H p=some (.lst xs)\/H p=some (.tup xs))/\xs.length < 1000/\∀ x∈xs,Tree H n x
def Alike (H H':Hp):Nat->V->V->Prop
 | 0,v,v'=>v'=v
 | n + 1,v,v'=>(Ao v/\v'=v)\/(∃ p p' xs ys,v=.ref p/\v'=.ref p'/\H p=some (.lst xs)/\H' p'=some (.lst ys)/\aI (Alike H H' n) xs ys) \/
   ∃ p p' xs ys,v=.ref p/\v'=.ref p'/\H p=some (.tup xs)/\H' p'=some (.tup ys)/\aI (Alike H H' n) xs ys
theorem Alike.mono {H H1 H2:Hp} (s:bj H1 H2):∀ {n:Nat} {v v':V},Alike H H1 n v v'->Alike H H2 n v v'
 | 0,_,_,h=>h
 | n + 1,v,v',h=>by
  rcases h with h | ⟨p,p',xs,ys,e1,e2,h1,h2,r⟩ | ⟨p,p',xs,ys,e1,e2,h1,h2,r⟩
  ·exact .inl h
  ·exact .inr (.inl ⟨p,p',xs,ys,e1,e2,h1,s _ _ h2,L2.Paired.imp' (fun _ _ z=>Alike.mono s z) r⟩)
  ·exact .inr (.inr ⟨p,p',xs,ys,e1,e2,h1,s _ _ h2,L2.Paired.imp' (fun _ _ z=>Alike.mono s z) r⟩)
theorem Tree.same {H H1:Hp} (s:bj H H1):∀ {n:Nat} {v:V},Tree H n v->Tree H1 n v
 | 0,_,h=>h
 | n + 1,v,h=>by
  rcases h with h | ⟨p,xs,e,h1,h2,h3⟩
  ·exact .inl h
  ·exact .inr ⟨p,xs,e,h1.imp (s _ _) (s _ _),h2,fun x hx=>Tree.same s (h3 x hx)⟩
theorem Alike.from {H H0 H1:Hp} (s:bj H H0):∀ {n:Nat} {v v':V},Tree H n v->Alike H0 H1 n v v'->Alike H H1 n v v'
 | 0,_,_,_,h=>h
 | n + 1,v,v',t,h=>by
  rcases t with t | ⟨q,zs,e,t1,t2,t3⟩
  ·rcases h with h | ⟨p,p',xs,ys,e1,e2,h1,h2,r⟩ | ⟨p,p',xs,ys,e1,e2,h1,h2,r⟩
   ·exact .inl h
   ·rw [e1] at t;exact t.elim
   ·rw [e1] at t;exact t.elim
  ·rcases h with h | ⟨p,p',xs,ys,e1,e2,h1,h2,r⟩ | ⟨p,p',xs,ys,e1,e2,h1,h2,r⟩
   ·exact .inl h
   ·rw [e] at e1
    cases e1
    rcases t1 with t1 | t1
    ·have z:=s _ _ t1;rw [h1] at z
     cases z;refine .inr (.inl ⟨q,p',zs,ys,e,e2,t1,h2,?_⟩);clear h1 t1 t2 h2
     induction r with
     | nil=>exact .nil
     | cons a b ih=>exact .cons (Alike.from s (t3 _ aD) a) (ih fun x hx=>t3 x (ah _ hx))
    ·have z:=s _ _ t1;rw [h1] at z
     cases z
   ·rw [e] at e1
    cases e1
    rcases t1 with t1 | t1
    ·have z:=s _ _ t1;rw [h1] at z
     cases z
    ·have z:=s _ _ t1;rw [h1] at z
     cases z;refine .inr (.inr ⟨q,p',zs,ys,e,e2,t1,h2,?_⟩);clear h1 t1 t2 h2
     induction r with
     | nil=>exact .nil
     | cons a b ih=>exact .cons (Alike.from s (t3 _ aD) a) (ih fun x hx=>t3 x (ah _ hx))
theorem Ap {K:ae}:gC K (.type "int") (.type "list")=some false:=by kernel_rfl
theorem E8 {K:ae}:gC K (.type "str") (.type "list")=some false:=by kernel_rfl
theorem E9 {K:ae}:gC K (.type "int") (.type "tuple")=some false:=by kernel_rfl
theorem Fb {K:ae}:gC K (.type "str") (.type "tuple")=some false:=by kernel_rfl
theorem Fc {K:ae}:gC K (.type "list") (.type "list")=some true:=by rfl
theorem K9 {K:ae}:gC K (.type "tuple") (.type "list")=some false:=by kernel_rfl
theorem La {K:ae}:gC K (.type "tuple") (.type "tuple")=some true:=by rfl
def Nw (H G:Hp):Hp:=fun a=>if H a=none then G a else none
theorem y9 {H G:Hp} {a:aa} (n:H a=none):Nw H G a=G a:=if_pos n
theorem nw_le {H G:Hp}:bj (Nw H G) G:=fun a o e=>by
 unfold Nw at e
 by_cases c:H a=none
 ·rw [if_pos c] at e;exact e
 ·rw [if_neg c] at e
  cases e
theorem uI {H G G':Hp} (s:bj G G'):bj (Nw H G) (Nw H G'):=fun a o e=>by
 by_cases c:H a=none
 ·rw [y9 c] at e |-;exact s _ _ e
 ·unfold Nw at e;rw [if_neg c] at e
  cases e
theorem Bo {H0 H G:Hp} (d:∀ a,H a=none->H0 a=none):bj (Nw H G) (Nw H0 G):=fun a o e=>by
 by_cases c:H a=none
 ·rw [y9 c] at e;rw [y9 (d a c)];exact e
 ·unfold Nw at e;rw [if_neg c] at e
  cases e
theorem rG {H G:Hp} (s:bj H G):∀ a,G a=none->H a=none:=fun a n=>by
 cases z:H a with
 | none=>rfl
 | some o =>
  rw [s _ _ z] at n
  cases n
section
variable {P:aL} {w:bN} {K:ae} {mg:Str->Option af} {base:cF} {f fC fI CM CS:aa} {fd fdC fdI:cw}
def pE (n:Nat):Sp:=fun vs H Q _=>∃ v,vs=[v]/\Tree H n v/\∀ (v':V) (H':Hp),bj H H'->Alike H (Nw H H') n v v'->Q v' H'
theorem scC:cv ["thing"] ["thing"] (aQ mR):={}
theorem Bp:(["part","thing"]:List Str).Nodup:=by decide +kernel
theorem wR {α β:Type} {R:α->β->Prop} {xs:List α} {ys:List β} {i:Nat} {x:α} {y:β} (r:aI R (xs.take i) ys) (hx:xs[i]?=some x) (h:R x y):aI R (xs.take (i + 1)) (ys++[y]):=by
 have e:xs.take (i + 1)=xs.take i++[x]:=by rw [gm,hx]; rfl
 rw [e];exact eS r h
theorem za {n:Nat} (D:Df K mg "copied" mR ["thing"] f fd) (B:Bl mg) (G:cm P w K mg base CX0 (n + 1) f fd ["thing"] (pE n)):cm P w K mg base CX0 (n + 2) f fd ["thing"] (pE (n + 1)):=by
 refine D.F.ok scC (fun vs H Q E h=>?_) (fun cdv A outer s H vs Q E hr h=>?_)
 ·obtain ⟨v,rfl,_⟩:=h;rfl
 obtain ⟨v,rfl,ht,q⟩:=h;refine ⟨_,ak (cS (sy (dB j9 (by rfl) B.isi pD (av (pv 0) (av (qZ (v:=.ty "list") (by rfl) B.list boot_list rfl) ao))))
   (aF (bQ (uy ["part"] (iG.closed (by decide +kernel) (by decide +kernel) rfl (by decide +kernel) (by intro n hn; rcases aH.mp hn with rfl; decide +kernel)) rfl (i0 (pv 0)) (fun _ _ _ _=>cP (i:=0) Bp rfl (Or.inl rfl)) (fun _ _ _ _=>kD)
    (fun _ _ _ _=>aO G hr rfl D.m D.F.kp D.b .nil bY (av (pv 0) ao))))) cq)
  (ak (cS (sy (dB j9 (by rfl) B.isi pD (av (pv 0) (av (qZ (v:=.ty "tuple") (by rfl) B.tuple boot_tuple rfl) ao))))
   (aF (bQ (iM vP (by rfl) B.tuple boot_tuple (av (uy ["part"] (iG.closed (by decide +kernel) (by decide +kernel) rfl (by decide +kernel) (by intro n hn; rcases aH.mp hn with rfl; decide +kernel)) rfl (KB (pv 0)) (fun _ _ _ _=>cP (i:=0) Bp rfl (Or.inl rfl)) (fun _ _ _ _=>kD)
    (fun _ _ _ _=>aO G hr rfl D.m D.F.kp D.b .nil bY (av (pv 0) ao))) ao)))) cq)
  (aF (bQ (pv 0)))),?_⟩
 have big:1000 < au:=by decide
 rcases ht with ht | ⟨p,xs,rfl,hp,hl,hx⟩
 ·cases v with
  | int i =>
   refine ⟨_,rfl,_,"list",_,false,rfl,.int i,Ap,_,rfl,gi ?_⟩;refine ⟨_,rfl,_,"tuple",_,false,rfl,.int i,E9,_,rfl,gi ?_⟩;exact ⟨_,rfl,q _ _ (bj.refl H) (.inl ⟨trivial,rfl⟩)⟩
  | str x =>
   refine ⟨_,rfl,_,"list",_,false,rfl,.str x,E8,_,rfl,gi ?_⟩;refine ⟨_,rfl,_,"tuple",_,false,rfl,.str x,Fb,_,rfl,gi ?_⟩;exact ⟨_,rfl,q _ _ (bj.refl H) (.inl ⟨trivial,rfl⟩)⟩
  | non=>exact ht.elim
  | bl b=>exact ht.elim
  | byt b=>exact ht.elim
  | flt b=>exact ht.elim
  | ref a=>exact ht.elim
  | ty a=>exact ht.elim
 ·rcases hp with hp | hp
  ·refine ⟨_,rfl,_,"list",_,true,rfl,.lst hp,Fc,_,rfl,iF ?_⟩;refine ⟨_,rfl,p,rfl,⟨_,SqL.of hp⟩,sS (K:=K) (a:=p) (xs:=xs) (fun i ys H1=>i<=xs.length/\ys.length=i/\bj H H1/\aI (Alike H (Nw H H1) n) (xs.take i) ys) ⟨bH _,rfl,bj.refl H,.nil⟩ ?_ ?_ ?_⟩
   ·rintro i ys H1 hi ⟨_,h1,h2,_⟩;exact ⟨SqL.of (h2 _ _ hp),by omega⟩
   ·rintro i x ys H1 hi ⟨h0,h1,h2,h3⟩;have hm:x∈xs:=bX hi;have lt:i < xs.length:=(aC.mp hi).1;refine ⟨rfl,?_⟩;unfold vR;refine iF ?_;refine ⟨_,rfl,x,rfl,Tree.same h2 (hx x hm),fun v' H2 s2 al=>?_⟩;exact ⟨lt,by rw [ax,h1]; rfl,h2.trans s2,wR (L2.Paired.imp' (fun _ _ z=>Alike.mono (uI s2) z) h3) hi (Alike.mono (Bo (rG h2)) (Alike.from h2 (hx x hm) al))⟩
   ·rintro ys H1 ⟨_,h1,h2,h3⟩ l hl';rw [dQ] at h3;refine q _ _ (h2.trans (aA hl' _)) (.inr (.inl ⟨p,l,xs,ys,rfl,rfl,hp,(by rw [y9 (rG h2 _ hl')]; exact ag),L2.Paired.imp' (fun _ _ z=>Alike.mono (uI (aA hl' _)) z) h3⟩))
  ·refine ⟨_,rfl,_,"list",_,false,rfl,.tup hp,K9,_,rfl,gi ?_⟩;refine ⟨_,rfl,_,"tuple",_,true,rfl,.tup hp,La,_,rfl,iF ?_⟩;refine ⟨_,rfl,p,rfl,⟨_,SqT.of hp⟩,EK (K:=K) (a:=p) (xs:=xs) (Q:=fun v H1=>∃ z ys,[v]=[V.ref z]/\((SqL K H1 z ys/\∀ l,H1 l=none->Q (.ref l) (upd H1 l (.tup ys)))\/(SqT K H1 z ys/\Q (.ref z) H1))) (fun i ys H1=>i<=xs.length/\ys.length=i/\bj H H1/\aI (Alike H (Nw H H1) n) (xs.take i) ys) ⟨bH _,rfl,bj.refl H,.nil⟩ ?_ ?_ ?_⟩
   ·rintro i ys H1 hi ⟨_,h1,h2,_⟩;exact ⟨SqT.of (h2 _ _ hp),by omega⟩
   ·rintro i x ys H1 hi ⟨h0,h1,h2,h3⟩;have hm:x∈xs:=bX hi;have lt:i < xs.length:=(aC.mp hi).1;refine ⟨rfl,?_⟩;unfold vR;refine iF ?_;refine ⟨_,rfl,x,rfl,Tree.same h2 (hx x hm),fun v' H2 s2 al=>?_⟩;exact ⟨lt,by rw [ax,h1]; rfl,h2.trans s2,wR (L2.Paired.imp' (fun _ _ z=>Alike.mono (uI s2) z) h3) hi (Alike.mono (Bo (rG h2)) (Alike.from h2 (hx x hm) al))⟩
   ·rintro ys H1 ⟨_,h1,h2,h3⟩ l hl';rw [dQ] at h3;refine ⟨l,ys,rfl,.inl ⟨SqL.of ag,fun t ht=>?_⟩⟩;have s3:bj H1 (upd (upd H1 l (.lst ys)) t (.tup ys)):=(aA hl' _).trans (aA ht _);exact q _ _ (h2.trans s3) (.inr (.inr ⟨p,t,xs,ys,rfl,rfl,hp,(by rw [y9 (rG (h2.trans (aA hl' (.lst ys))) _ ht)]; exact ag),L2.Paired.imp' (fun _ _ z=>Alike.mono (uI s3) z) h3⟩))
theorem zb (D:Df K mg "copied" mR ["thing"] f fd) (B:Bl mg):cm P w K mg base CX0 1 f fd ["thing"] (pE 0):=by
 refine D.F.ok scC (fun vs H Q E h=>?_) (fun cdv A outer s H vs Q E hr h=>?_)
 ·obtain ⟨v,rfl,_⟩:=h;rfl
 obtain ⟨v,rfl,ht,q⟩:=h;refine ⟨_,ak (cS (sy (dB j9 (by rfl) B.isi pD (av (pv 0) (av (qZ (v:=.ty "list") (by rfl) B.list boot_list rfl) ao)))) wc cq)
  (ak (cS (sy (dB j9 (by rfl) B.isi pD (av (pv 0) (av (qZ (v:=.ty "tuple") (by rfl) B.tuple boot_tuple rfl) ao)))) wc cq)
  (aF (bQ (pv 0)))),?_⟩
 have ht:Ao v:=ht
 cases v with
 | int i =>
  refine ⟨_,rfl,_,"list",_,false,rfl,.int i,Ap,_,rfl,gi ?_⟩;refine ⟨_,rfl,_,"tuple",_,false,rfl,.int i,E9,_,rfl,gi ?_⟩;exact ⟨_,rfl,q _ _ (bj.refl H) rfl⟩
 | str x =>
  refine ⟨_,rfl,_,"list",_,false,rfl,.str x,E8,_,rfl,gi ?_⟩;refine ⟨_,rfl,_,"tuple",_,false,rfl,.str x,Fb,_,rfl,gi ?_⟩;exact ⟨_,rfl,q _ _ (bj.refl H) rfl⟩
 | non=>exact ht.elim
 | bl b=>exact ht.elim
 | byt b=>exact ht.elim
 | flt b=>exact ht.elim
 | ref a=>exact ht.elim
 | ty a=>exact ht.elim
theorem wU (D:Df K mg "copied" mR ["thing"] f fd) (B:Bl mg):∀ n:Nat,cm P w K mg base CX0 (n + 1) f fd ["thing"] (pE n)
 | 0=>zb D B
 | n + 1=>za D B (wU D B n)
structure MdT (K:ae) (mg:Str->Option af) (CM CS:aa):Prop where
 clM:Cls K CM
 clS:Cls K CS
 nM:eV K CM "machines"
 nB:eV K CS "boxes"
 nQ:eV K CS "queues"
 nD:eV K CS "drawn"
 nS:eV K CS "sent"
 mM:mg "Model"=some (.ref CM)
 mS:mg "State"=some (.ref CS)
inductive JD (CM:aa) (n:Nat) (vs:List V) (H:Hp) (Q:VK) (_e:XK):Prop where
 | mk (m dx:aa) (v:V) (_:vs=[.ref m,v]) (_:H m=some (.ins CM dx [])) (_:Tree H n v) (_:∀ (v':V) (H':Hp),bj H H'->Alike H (Nw H H') n v v'->Q .non (upd H' m (.ins CM dx (dM "machines" v' [])))):JD CM n vs H Q _e
def spMI (CM:aa) (n:Nat):Sp:=fun vs H Q _e=>JD CM n vs H Q _e
theorem scMI:cv ["self","machines"] ["self","machines"] (aQ nV):={}
theorem ok_MI {n:Nat} (F:Fun K "__init__" "Model.__init__" nV f fd) (DC:Df K mg "copied" mR ["thing"] fC fdC) (B:Bl mg) (T:MdT K mg CM CS):cm P w K mg base CX0 (n + 2) f fd ["self","machines"] (spMI CM n):=by
 have GC:cm P w K mg base CX0 (n + 1) fC fdC ["thing"] (pE n):=wU DC B n;refine F.ok scMI (fun vs H Q E h=>?_) (fun cdv A outer s H vs Q E hr h=>?_)
 ·obtain ⟨m,dx,v,rfl,_⟩:=h;rfl
 obtain ⟨m,dx,v,rfl,hm,ht,q⟩:=h;refine ⟨_,aF (gb (pv 0) (aO GC hr rfl DC.m DC.F.kp DC.b .nil bY (av (pv 1) ao)) rfl),?_⟩;refine ⟨_,rfl,v,rfl,ht,fun v' H' s1 al=>?_⟩;exact ⟨_,rfl,m,CM,dx,[],rfl,s1 _ _ hm,T.clM,T.nM,(by show 0 < 1000; decide),q v' H' s1 al⟩
def nZ (b q d e:V):List (Str×V):=dM "sent" e (dM "drawn" d (dM "queues" q (dM "boxes" b [])))
inductive JE (CS:aa) (vs:List V) (H:Hp) (Q:VK) (_e:XK):Prop where
 | mk (m dx:aa) (b q d e:V) (_:vs=[.ref m,b,q,d,e]) (_:H m=some (.ins CS dx [])) (_:∀ H':Hp,H' m=some (.ins CS dx (nZ b q d e))->But m H H'->Q .non H'):JE CS vs H Q _e
def Lb (CS:aa):Sp:=fun vs H Q _e=>JE CS vs H Q _e
theorem scSI:cv ["self","boxes","queues","drawn","sent"] ["self","boxes","queues","drawn","sent"] (aQ jB):={}
theorem hJ (f:Str) (v:V) (fs:List (Str×V)):(dM f v fs).length<=fs.length + 1:=by
 induction fs with
 | nil=>exact aE _
 | cons p r ih =>
  unfold dM
  split
  ·rw [aR,aR];omega
  ·rw [aR,aR];omega
theorem JF (F:Fun K "__init__" "State.__init__" jB f fd) (T:MdT K mg CM CS):cm P w K mg base CX0 1 f fd ["self","boxes","queues","drawn","sent"] (Lb CS):=by
 refine F.ok scSI (fun vs H Q E h=>?_) (fun cdv A outer s H vs Q E hr h=>?_)
 ·obtain ⟨m,dx,b,q,d,e,rfl,_⟩:=h;rfl
 obtain ⟨m,dx,b,q,d,e,rfl,hm,k⟩:=h;refine ⟨_,ak (gb (pv 0) (pv 1) rfl) (ak (gb (pv 0) (pv 2) rfl) (ak (gb (pv 0) (pv 3) rfl) (aF (gb (pv 0) (pv 4) rfl)))),?_⟩;have l1:=hJ "boxes" b [];have l2:=hJ "queues" q (dM "boxes" b []);have l3:=hJ "drawn" d (dM "queues" q (dM "boxes" b []));simp only [cU] at l1;refine ⟨_,rfl,_,rfl,m,CS,dx,[],rfl,hm,T.clS,T.nB,(by show 0 < 1000; decide),_,rfl,_,rfl,m,CS,dx,_,rfl,ag,T.clS,T.nQ,(by omega),_,rfl,_,rfl,m,CS,dx,_,rfl,ag,T.clS,T.nD,(by omega),_,rfl,_,rfl,m,CS,dx,_,rfl,ag,T.clS,T.nS,(by omega),?_⟩;exact k _ ag (((But.upd m H _).trans (But.upd m _ _)).trans ((But.upd m _ _).trans (But.upd m _ _)))
inductive Fd (CM:aa) (vs:List V) (H:Hp) (Q:VK) (_e:XK):Prop where
 | mk (m dx l t b q:aa) (fs:List (Str×V)) (n0 x3 x4:V) (_:vs=[.ref m,.int 0]) (_:H m=some (.ins CM dx fs)) (_:fs.lookup ("machines":Str)=some (V.ref l)) (_:H l=some (.lst [.ref t])) (_:H t=some (.tup [n0,.ref b,.ref q,x3,x4])) (_:H b=some (.lst [])) (_:H q=some (.lst [])) (_:∀ (st:aa) (H':Hp),bj H H'->Q (.ref st) H'):Fd CM vs H Q _e
theorem Ie:cv ["model","at","machine","queues","name"] ["model","at"] (aQ jV):={}
end
section
variable {κ:Type} [DecidableEq κ]
abbrev qz (ps:List (κ×V)) (m:List (κ×V)):List (κ×V):=ps.foldl (fun m p=>jI m p.1 p.2) m
end
theorem p4 {H H':Hp} {n:Nat} {a:aa} {xs:List V} {y:V} (ha:H a=some (.lst xs)) (z:Alike H H' (n + 1) (.ref a) y):∃ (a':aa) (ys:List V),y=.ref a'/\H' a'=some (.lst ys)/\aI (Alike H H' n) xs ys:=by
 rcases z with ⟨z,_⟩ | ⟨p,p',xs',ys,e1,e2,h1,h2,r⟩ | ⟨p,p',xs',ys,e1,e2,h1,h2,r⟩
 ·exact z.elim
 ·cases e1;rw [ha] at h1
  cases h1;exact ⟨p',ys,e2,h2,r⟩
 ·cases e1;rw [ha] at h1
  cases h1
theorem sY {H H':Hp} {n:Nat} {a:aa} {xs:List V} {y:V} (ha:H a=some (.tup xs)) (z:Alike H H' (n + 1) (.ref a) y):∃ (a':aa) (ys:List V),y=.ref a'/\H' a'=some (.tup ys)/\aI (Alike H H' n) xs ys:=by
 rcases z with ⟨z,_⟩ | ⟨p,p',xs',ys,e1,e2,h1,h2,r⟩ | ⟨p,p',xs',ys,e1,e2,h1,h2,r⟩
 ·exact z.elim
 ·cases e1;rw [ha] at h1
  cases h1
 ·cases e1;rw [ha] at h1
  cases h1;exact ⟨p',ys,e2,h2,r⟩
theorem eY {H H':Hp} {n:Nat} {v y:V} (hv:Ao v) (z:Alike H H' n v y):y=v:=by
 cases n with
 | zero=>exact z
 | succ n =>
  rcases z with ⟨_,z⟩ | ⟨p,p',xs',ys,e1,e2,h1,h2,r⟩ | ⟨p,p',xs',ys,e1,e2,h1,h2,r⟩
  ·exact z
  ·rw [e1] at hv;exact hv.elim
  ·rw [e1] at hv;exact hv.elim
theorem iR {H H':Hp} {n:Nat} {xs ys:List V} (r:aI (Alike H H' n) xs ys):(∀ x∈xs,Ao x)->ys=xs:=by
 induction r with
 | nil=>exact fun _=>rfl
 | cons a b ih =>
  intro h;rw [eY (h _ aD) a,ih fun x hx=>h x (ah _ hx)]
def gy (H:Hp) (ps:List (Str×Int)) (vs:List V):Prop:=uA H (ps.map fun p=>(Sum.inr p.1,V.int p.2)) vs
theorem gy.same {H H':Hp} (s:bj H H'):∀ {ps:List (Str×Int)} {vs:List V},gy H ps vs->gy H' ps vs
 | [],_,h=>by
  cases h;exact .nil
 | p :: ps,_,h=>by
  cases h with
  | cons a b =>
   obtain ⟨t,e,h⟩:=a;exact .cons ⟨t,e,s _ _ h⟩ (gy.same s (ps:=ps) b)
theorem gy.alike {H H':Hp} {n:Nat}:∀ {ps:List (Str×Int)} {vs ys:List V},gy H ps vs->aI (Alike H H' (n + 1)) vs ys->gy H' ps ys
 | [],_,_,h,r=>by
  cases h
  cases r;exact .nil
 | p :: ps,_,_,h,r=>by
  cases h with
  | cons a b =>
   cases r with
   | cons r1 r2 =>
    obtain ⟨t,rfl,h⟩:=a;obtain ⟨t',ys,rfl,h',rr⟩:=sY h r1;have e:=iR rr (fun x hx=>by
     simp only [ay,aY,or_false] at hx
     rcases hx with rfl | rfl
     ·exact trivial
     ·exact trivial)
    rw [e] at h';exact .cons ⟨t',rfl,h'⟩ (gy.alike (ps:=ps) b r2)
theorem gy.length {H:Hp} {ps:List (Str×Int)} {vs:List V} (h:gy H ps vs):ps.length=vs.length:=by
 have z:=aX h;rw [ai] at z;exact z
theorem gy.tree {H:Hp} {n:Nat}:∀ {ps:List (Str×Int)} {vs:List V},gy H ps vs->∀ x∈vs,Tree H (n + 1) x
 | [],_,h,x,hx=>by
  cases h
  cases hx
 | p :: ps,_,h,x,hx=>by
  cases h with
  | cons a b =>
   rcases ay.mp hx with rfl | hx
   ·obtain ⟨t,rfl,h⟩:=a;refine .inr ⟨t,_,rfl,.inr h,(by show 2 < 1000; decide),fun y hy=>?_⟩;simp only [ay,aY,or_false] at hy
    rcases hy with rfl | rfl
    ·cases n <;> first | exact trivial | exact .inl trivial
    ·cases n <;> first | exact trivial | exact .inl trivial
   ·exact gy.tree (ps:=ps) b x hx
section
variable {P:aL} {w:bN} {K:ae} {mg:Str->Option af} {base:cF} {f fI CM CS:aa} {fd fdI:cw}
abbrev Lc (ps:List (Str×Int)):List (Key×V):=qz (ps.map fun p=>((Sum.inr p.1:Key),V.int p.2)) []
abbrev quT (qs:List Str) (ls:List aa):List (Key×V):=qz ((qs.zip ls).map fun p=>((Sum.inr p.1:Key),V.ref p.2)) []
structure New (H H':Hp) (CS st:aa) (ps:List (Str×Int)) (qs:List Str) (dx bd qd:aa) (ls:List aa):Prop where
 hst:H' st=some (.ins CS dx (nZ (.ref bd) (.ref qd) (.int 0) (.int 0)))
 hbd:H' bd=some (.dK (Lc ps))
 hqd:H' qd=some (.dK (quT qs ls))
 len:ls.length=qs.length
 nd:ls.Nodup
 li:∀ l∈ls,H l=none/\H' l=some (.lst [])
 ost:H st=none
 obd:H bd=none
 oqd:H qd=none
 ne:qd≠bd
 same:bj H H'
inductive wV (CM CS:aa) (vs:List V) (H:Hp) (Q:VK) (_e:XK):Prop where
 | mk (m dx l t b q:aa) (fs:List (Str×V)) (n0 x3 x4:V) (i:Nat) (ms vb:List V) (ps:List (Str×Int)) (qs:List Str) (_:vs=[.ref m,.int (i:Int)]) (_:H m=some (.ins CM dx fs)) (_:fs.lookup ("machines":Str)=some (V.ref l)) (_:H l=some (.lst ms)) (_:ms[i]?=some (.ref t)) (_:H t=some (.tup [n0,.ref b,.ref q,x3,x4])) (_:H b=some (.lst vb)) (_:gy H ps vb) (_:ps.length<=100) (_:H q=some (.lst (qs.map V.str))) (_:qs.length<=100) (_:∀ (st dx bd qd:aa) (ls:List aa) (H':Hp),New H H' CS st ps qs dx bd qd ls->Q (.ref st) H'):wV CM CS vs H Q _e
def zc (CM CS:aa):Sp:=fun vs H Q _e=>wV CM CS vs H Q _e
theorem Fe {α β:Type} {xs:List α} {ys:List β} {i:Nat} {x:α} {y:β} (hl:ys.length=i) (hx:xs[i]?=some x):(xs.take (i + 1)).zip (ys++[y])=(xs.take i).zip ys++[(x,y)]:=by
 have lt:i < xs.length:=(aC.mp hx).1;have e:xs.take (i + 1)=xs.take i++[x]:=by rw [gm,hx]; rfl
 rw [e,List.zip_append (by rw [aT,hl]; omega)];rfl
theorem CT (D:Df K mg "first_state" jV ["model","at"] f fd) (MS:Mk K CS fI) (FI:Fun K "__init__" "State.__init__" jB fI fdI) (bI:Binds K fdI ["self","boxes","queues","drawn","sent"] []) (B:Bl mg) (T:MdT K mg CM CS) :
  cm P w K mg base CX0 3 f fd ["model","at"] (zc CM CS):=by
 have GI:cm P w K mg base CX0 1 fI fdI ["self","boxes","queues","drawn","sent"] (Lb CS):=JF FI T;refine D.F.ok Ie (fun vs H Q E h=>?_) (fun cdv A outer s H vs Q E hr h=>?_)
 ·obtain ⟨m,dx,l,t,b,q,fs,n0,x3,x4,i,ms,vb,ps,qs,rfl,_⟩:=h;rfl
 obtain ⟨m,dx,l,t,b,q,fs,n0,x3,x4,i,ms,vb,ps,qs,rfl,hm,hfs,hl,hi,ht,hb,hps,lps,hq,lqs,k⟩:=h;have hu:=qx hr;refine ⟨_,ak (aZ (i:=2) Ie.nd rfl (Or.inl rfl) (bT cV (cW (pv 0) rfl) (pv 1) (fun _ _=>rfl)))
  (ak (aZ (i:=3) Ie.nd rfl (Or.inl rfl) rq)
  (ak (jy dy rfl (i0 (bT cL (pv 2) aw (fun _ _=>rfl))) (cP (i:=4) Ie.nd rfl (Or.inl rfl)) (aF (nI hu (pv 3) (pv 4) (dh ao) rfl)))
  (aF (bQ (pU MS GI hr (by rfl) T.mS bI .nil bY (av (iM (Ae rfl) (by rfl) B.dict boot_dict (av (bT cL (pv 2) aw (fun _ _=>rfl)) ao)) (av (pv 3) (av aw (av aw ao))))))))),?_⟩
 refine ⟨_,rfl,m,CM,dx,_,_,rfl,hm,T.clM,T.nM,hfs,_,rfl,l,_,_,_,rfl,rfl,SqL.of hl,gR hi,?_⟩;intro d hd;have s1:bj H (upd H d (.dK [])):=aA hd _;have big:1000 < au:=by decide
 have a2:atI [n0,V.ref b,V.ref q,x3,x4] 2=some (V.ref q):=rfl;have a1:atI [n0,V.ref b,V.ref q,x3,x4] 1=some (V.ref b):=rfl;refine ⟨_,rfl,t,_,_,_,rfl,rfl,SqT.of (s1 _ _ ht),a2,q,rfl,⟨_,SqL.of (s1 _ _ hq)⟩,kM (K:=K) (a:=q) (xs:=qs.map V.str) (fun j σ G=>∃ (v4:Option V) (ls:List aa),σ=[some (.ref m),some (.int (i:Int)),some (.ref t),some (.ref d),v4]/\j<=qs.length/\G d=some (.dK (quT (qs.take j) ls))/\ls.length=j/\ls.Nodup/\(∀ z∈ls,H z=none/\G z=some (.lst []))/\bj H G)
  ⟨none,[],rfl,bH _,ag,rfl,jO,(fun z hz=>by cases hz),s1⟩ ?_ ?_ ?_⟩
 ·rintro j σ G _ ⟨v4,ls,rfl,_,_,_,_,_,sm⟩;exact SqL.of (sm _ _ hq)
 ·rintro j x σ G hj ⟨v4,ls,rfl,jl,hG,ll,nd,li,sm⟩;obtain ⟨nm,hnm,rfl⟩:∃ nm,qs[j]?=some nm/\x=V.str nm:=by
   rw [bS] at hj
   cases e:qs[j]? with
   | none=>rw [e] at hj; cases hj
   | some nm=>rw [e] at hj; cases hj; exact ⟨nm,rfl,rfl⟩
  have jlt:j < qs.length:=(aC.mp hnm).1;refine ⟨bH _,fun z hz=>?_⟩;have nzd:d≠z:=aG hG hz;have hG':upd G z (.lst []) d=some (.dK (quT (qs.take j) ls)):=by rw [aK nzd]; exact hG
  have lt:(quT (qs.take j) ls).length < au:=by
   have q1:=yX ((((qs.take j).zip ls).map fun p=>((Sum.inr p.1:Key),V.ref p.2))) [];rw [ai,pF,aT] at q1;simp only [cU] at q1;exact jA q1 (by omega)
  refine ⟨_,rfl,_,rfl,d,_,rfl,uf.k (k:=Sum.inr nm) hG' lt,?_⟩;have fz:H z=none:=sm.free hz;have nin:z∉ls:=fun c=>by
   have q1:=(li z c).2;rw [hz] at q1
   cases q1
  refine ⟨_,ls++[z],rfl,jlt,?_,by rw [ax,ll]; rfl,Bd nd nin,fun y hy=>?_,?_⟩
  ·show upd _ d _ d=_;rw [ag];show some (HO.dK (jI (quT (qs.take j) ls) (Sum.inr nm) (.ref z)))=some (HO.dK (quT (qs.take (j + 1)) (ls++[z])));unfold quT;rw [Fe ll hnm,bV];unfold qz;rw [Ff];rfl
  ·rcases bU.mp hy with c | c
   ·obtain ⟨c1,c2⟩:=li y c;refine ⟨c1,?_⟩;rw [aK (mr c2 hG (by intro e; cases e)),aK (aG c2 hz)];exact c2
   ·rw [aH.mp c];refine ⟨fz,?_⟩;rw [aK nzd.symm];exact ag
  ·intro c o hc;have c2:=sm _ _ hc;have cd:c≠d:=aG hc hd;rw [aK cd,aK (aG c2 hz)];exact c2
 ·rintro σ G ⟨v4,ls,rfl,jl,hG,ll,nd,li,sm⟩;rw [ai] at ll hG;rw [dQ] at hG;refine ⟨_,rfl,t,_,_,_,rfl,rfl,SqT.of (sm _ _ ht),a1,b,vb,_,rfl,sm _ _ hb,gy.same sm hps,by rw [ai]; omega,fun e he=>?_⟩;have s2:bj G (upd G e (.dK (Lc ps))):=aA he _;refine ⟨_,rfl,?_⟩;intro x dx' nx ndx nex;refine ⟨x,dx',_,_,_,_,rfl,ag,fun H' hx bt=>⟨rfl,k x dx' e d ls H' ?_⟩⟩;have up:∀ {c:aa} {o:HO},upd G e (.dK (Lc ps)) c=some o->H' c=some o:=fun {c o} hc=>by
   have cx:c≠x:=aG hc nx;refine bt c o ?_ cx;rw [aK cx,aK (aG hc ndx)];exact hc
  exact ⟨hx,up ag,up (s2 _ _ hG),ll,nd,fun z hz=>⟨(li z hz).1,up (s2 _ _ (li z hz).2)⟩,sm.free (s2.free nx),sm.free he,hd,aG hG he,fun c o hc=>up (s2 _ _ (sm _ _ hc))⟩
end
section
variable {κ:Type} [DecidableEq κ]
theorem Aq:∀ (ps m:List (κ×V)),((m++ps).map (·.1)).Nodup->qz ps m=m++ps
 | [],m,_=>by simp [qz]
 | p :: r,m,h=>by
  have nk:lI m p.1=none:=by
   cases e:lI m p.1 with
   | none=>rfl
   | some v =>
    exfalso;rw [bV,cu] at h;exact (iI.mp h).2.2 p.1 (HE e) p.1 aD rfl
  show qz r (jI m p.1 p.2)=_;rw [EG p.2 nk,Aq r (m++[(p.1,p.2)]) (by rw [gY]; exact h),gY];rfl
end
theorem gy.tups {H H':Hp} (s:∀ t xs,H t=some (.tup xs)->H' t=some (.tup xs)):∀ {ps:List (Str×Int)} {vs:List V},gy H ps vs->gy H' ps vs
 | [],_,h=>by
  cases h;exact .nil
 | p :: ps,_,h=>by
  cases h with
  | cons a b =>
   obtain ⟨t,e,h⟩:=a;exact .cons ⟨t,e,s _ _ h⟩ (gy.tups s (ps:=ps) b)
def Bq:List Str:=["plus","less","times","part","rest","below","same"]
inductive Fm where
 | num (n:Int)
 | box (x:Str)
 | long (x:Str)
 | got (j:Bool)
 | now
 | two (k:Str) (f g:Fm)
def Fm.depth:Fm->Nat
 | .two _ f g=>max f.depth g.depth + 1
 | _=>1
inductive Rs where
 | ok (r:Int)
 | nought
 | great
def zd (k:Str) (a b:Int):Rs:=
 if k="plus" then .ok (a + b) else if k="less" then .ok (a - b) else if k="times" then .ok (a * b) else if k="below" then .ok (if a < b then 1 else 0)
 else if k="same" then .ok (if a=b then 1 else 0) else if b=0 then .nought else if k="part" then .ok (a.fdiv b) else .ok (a.fmod b)
def rH (r:Int):Int:=if r < 0 then -r else r
def cap:Rs->Rs
 | .ok r=>if 10 ^ 15 < rH r then .great else .ok r
 | .nought=>.nought
 | .great=>.great
structure xW where
 bx:Str->Int
 lg:Str->Nat
 g0:Int
 g1:Int
 nw:Int
def ev (e:xW):Fm->Rs
 | .num n=>.ok n
 | .box x=>.ok (e.bx x)
 | .long x=>.ok (e.lg x)
 | .got j=>.ok (if j then e.g1 else e.g0)
 | .now=>.ok e.nw
 | .two k f g=>match ev e f with
  | .ok a=>(match ev e g with
   | .ok b=>cap (zd k a b)
   | .nought=>.nought
   | .great=>.great)
  | .nought=>.nought
  | .great=>.great
def Wo (a:Int):Prop:=-(10 ^ 15)<=a/\a<=10 ^ 15
structure xW.Ok (e:xW) (bs qs:List Str):Prop where
 bx:∀ x∈bs,Wo (e.bx x)
 lg:∀ x∈qs,e.lg x<=1000
 g0:Wo e.g0
 g1:Wo e.g1
 nw:Wo e.nw
inductive ip (bs qs:List Str) (H:Hp):V->Fm->Prop where
 | num {t:aa} {n:Int}:H t=some (.tup [.str "number",.int n])->Wo n->ip bs qs H (.ref t) (.num n)
 | box {t:aa} {x:Str}:H t=some (.tup [.str "box",.str x])->x∈bs->ip bs qs H (.ref t) (.box x)
 | long {t:aa} {x:Str}:H t=some (.tup [.str "long",.str x])->x∈qs->ip bs qs H (.ref t) (.long x)
 | got {t:aa} {j:Bool}:H t=some (.tup [.str "got",.int (if j then 1 else 0)])->ip bs qs H (.ref t) (.got j)
 | now {t:aa}:H t=some (.tup [.str "now"])->ip bs qs H (.ref t) .now
 | two {t:aa} {k:Str} {u v:V} {f g:Fm}:H t=some (.tup [.str k,u,v])->k∈Bq->ip bs qs H u f->ip bs qs H v g->ip bs qs H (.ref t) (.two k f g)
theorem ip.mono {bs qs:List Str} {H H':Hp} {v:V} {f:Fm} (h:ip bs qs H v f) (s:∀ t xs,H t=some (.tup xs)->H' t=some (.tup xs)):ip bs qs H' v f:=by
 induction h with
 | num h1 h2=>exact .num (s _ _ h1) h2
 | box h1 h2=>exact .box (s _ _ h1) h2
 | long h1 h2=>exact .long (s _ _ h1) h2
 | got h1=>exact .got (s _ _ h1)
 | now h1=>exact .now (s _ _ h1)
 | two h1 h2 _ _ i1 i2=>exact .two (s _ _ h1) h2 i1 i2
theorem ip.same {bs qs:List Str} {H H':Hp} {v:V} {f:Fm} (h:ip bs qs H v f) (s:bj H H'):ip bs qs H' v f:=h.mono fun _ _ e=>s _ _ e
theorem Fg {r:Int} (h:¬ 10 ^ 15 < rH r):Wo r:=by
 unfold rH at h;unfold Wo
 split at h <;> omega
theorem Fh {r:Int} (h:Wo r):¬ 10 ^ 15 < rH r:=by
 unfold Wo at h;unfold rH
 split <;> omega
theorem Ld {x:Rs} {r:Int} (h:cap x=.ok r):Wo r:=by
 cases x with
 | ok y =>
  unfold cap at h;dsimp only at h
  by_cases c:10 ^ 15 < rH y
  ·rw [if_pos c] at h
   cases h
  ·rw [if_neg c] at h
   cases h;exact Fg c
 | nought=>cases h
 | great=>cases h
theorem lg_wo {n:Nat} (h:n<=1000):Wo (n:Int):=by
 unfold Wo;omega
theorem tY {bs qs:List Str} {H:Hp} {e:xW} (ok:e.Ok bs qs) {v:V} {f:Fm} (h:ip bs qs H v f):∀ {r:Int},ev e f=.ok r->Wo r:=by
 induction h with
 | num h1 h2 =>
  intro r q;unfold ev at q
  cases q;exact h2
 | box h1 h2 =>
  intro r q;unfold ev at q
  cases q;exact ok.bx _ h2
 | long h1 h2 =>
  intro r q;unfold ev at q
  cases q;exact lg_wo (ok.lg _ h2)
 | @got t j h1 =>
  intro r q;unfold ev at q
  cases q
  cases j
  ·exact ok.g0
  ·exact ok.g1
 | now h1 =>
  intro r q;unfold ev at q
  cases q;exact ok.nw
 | @two t k u v f g h1 h2 _ _ i1 i2 =>
  intro r q;unfold ev at q
  cases e1:ev e f with
  | ok a =>
   rw [e1] at q
   cases e2:ev e g with
   | ok b =>
    rw [e2] at q;exact Ld q
   | nought=>rw [e2] at q; cases q
   | great=>rw [e2] at q; cases q
  | nought=>rw [e1] at q; cases q
  | great=>rw [e1] at q; cases q
def wW (CN CG:aa) (r:Rs) (Q:VK) (E:XK) (H:Hp):Prop:=match r with
 | .ok r=>Q (.int r) H
 | .nought=>E (.ref CN) none H
 | .great=>E (.ref CG) none H
section
variable {P:aL} {w:bN} {K:ae} {mg:Str->Option af} {base:cF} {f fD fT fL CN CG CM CS:aa} {fd fdD fdT fdL:cw}
structure Fts (K:ae) (mg:Str->Option af) (CN CG:aa):Prop where
 mN:mg "Nought"=some (.ref CN)
 mG:mg "Great"=some (.ref CG)
 xN:dO K CN qJ "ValueError.__new__"=true
 xG:dO K CG qJ "ValueError.__new__"=true
 nn:dC K (.ref CN) (.ref CN)=some true
 gn:dC K (.ref CG) (.ref CN)=some false
 gg:dC K (.ref CG) (.ref CG)=some true
inductive Fi (CN:aa) (vs:List V) (H:Hp) (Q:VK) (E:XK):Prop where
 | mk (k:Str) (a b:Int) (_:vs=[.str k,.int a,.int b]) (_:Wo b) (_:(b=0->E (.ref CN) none H)) (_:(¬ b=0->k="part"->Q (.int (a.fdiv b)) H)) (_:(¬ b=0->¬ k="part"->Q (.int (a.fmod b)) H)):Fi CN vs H Q E
def JG (CN:aa):Sp:=fun vs H Q E=>Fi CN vs H Q E
theorem scDv:cv ["kind","first","second"] ["kind","first","second"] (aQ d9):={}
theorem xX {a b:Int} (h:V.int a=V.int b):a=b:=V.int.inj h
theorem sZ {a b:Str} (h:V.str a=V.str b):a=b:=V.str.inj h
theorem Le (D:Df K mg "number_of_division" d9 ["kind","first","second"] f fd) (T:Fts K mg CN CG):cm P w K mg base (CXo P w) 1 f fd ["kind","first","second"] (JG CN):=by
 refine D.F.okX scDv (fun vs H Q E h=>?_) (fun cdv A outer s H vs Q E hr h=>?_)
 ·obtain ⟨k,a,b,rfl,_⟩:=h;rfl
 obtain ⟨k,a,b,rfl,hb,h1,h2,h3⟩:=h;refine ⟨_,ak (cS (bM eG (pv 2) aw (cj _)) (aF (kU d6 rfl rfl T.mN T.xN (av cA ao))) cq)
  (ak (cS (bM eG (pv 0) cA (cj _)) (aF (bQ (cC EM (pv 1) (pv 2)))) cq)
  (aF (bQ (cC Hs (pv 1) (pv 2))))),?_⟩
 refine ⟨_,rfl,rfl,_,rfl,?_⟩;refine gS (fun c=>?_) (fun c=>?_)
 ·exact ⟨(by show 1<=au; decide),h1 (xX (kd c))⟩
 ·have nb:¬ b=0:=fun z=>kA c (by rw [z]);refine ⟨_,rfl,rfl,_,rfl,?_⟩;refine gS (fun c2=>?_) (fun c2=>?_)
  ·refine ⟨_,rfl,_,rfl,_,_,rfl,rfl,⟨nb,?_⟩,h2 nb (sZ (kd c2))⟩;unfold Wo at hb;omega
  ·exact ⟨_,rfl,_,rfl,_,_,rfl,rfl,nb,h3 nb (fun z=>kA c2 (by rw [z]))⟩
inductive Fj (CN CG:aa) (vs:List V) (H:Hp) (Q:VK) (E:XK):Prop where
 | mk (k:Str) (a b:Int) (_:vs=[.str k,.int a,.int b]) (_:Wo a) (_:Wo b) (_:wW CN CG (zd k a b) Q E H):Fj CN CG vs H Q E
def JH (CN CG:aa):Sp:=fun vs H Q E=>Fj CN CG vs H Q E
theorem scTw:cv ["kind","first","second"] ["kind","first","second"] (aQ gO):={}
theorem Lg (D:Df K mg "number_of_two" gO ["kind","first","second"] f fd) (DD:Df K mg "number_of_division" d9 ["kind","first","second"] fD fdD) (T:Fts K mg CN CG) :
  cm P w K mg base (CXo P w) 2 f fd ["kind","first","second"] (JH CN CG):=by
 have GD:cm P w K mg base (CXo P w) 1 fD fdD ["kind","first","second"] (JG CN):=Le DD T;refine D.F.okX scTw (fun vs H Q E h=>?_) (fun cdv A outer s H vs Q E hr h=>?_)
 ·obtain ⟨k,a,b,rfl,_⟩:=h;rfl
 obtain ⟨k,a,b,rfl,ha,hb,h⟩:=h;unfold zd at h;refine ⟨_,ak (cS (bM eG (pv 0) cA (cj _)) (aF (bQ (cC ff (pv 1) (pv 2)))) cq)
  (ak (cS (bM eG (pv 0) cA (cj _)) (aF (bQ (cC kN (pv 1) (pv 2)))) cq)
  (ak (cS (bM eG (pv 0) cA (cj _)) (aF (bQ (cC oR (pv 1) (pv 2)))) cq)
  (ak (cS (bM eG (pv 0) cA (cj _)) (aF (bQ (q8 (bM uP (pv 1) (pv 2) (cj _)) aw aw))) cq)
  (ak (cS (bM eG (pv 0) cA (cj _)) (aF (bQ (q8 (bM eG (pv 1) (pv 2) (cj _)) aw aw))) cq)
  (aF (bQ (aO GD hr rfl DD.m DD.F.kp DD.b .nil (d6.passes fun _ _ _ z=>z) (av (pv 0) (av (pv 1) (av (pv 2) ao)))))))))),?_⟩
 refine ⟨_,rfl,rfl,_,rfl,gS (fun c=>?_) (fun c=>?_)⟩
 ·rw [if_pos (sZ (kd c))] at h;exact ⟨_,rfl,_,rfl,_,_,rfl,rfl,h⟩
 rw [if_neg fun z=>kA c (by rw [z])] at h;refine ⟨_,rfl,rfl,_,rfl,gS (fun c=>?_) (fun c=>?_)⟩
 ·rw [if_pos (sZ (kd c))] at h;exact ⟨_,rfl,_,rfl,_,_,rfl,rfl,h⟩
 rw [if_neg fun z=>kA c (by rw [z])] at h;refine ⟨_,rfl,rfl,_,rfl,gS (fun c=>?_) (fun c=>?_)⟩
 ·rw [if_pos (sZ (kd c))] at h;refine ⟨_,rfl,_,rfl,_,_,rfl,rfl,.inl ⟨?_,?_⟩,h⟩
  ·unfold Wo at ha; omega
  ·unfold Wo at ha; omega
 rw [if_neg fun z=>kA c (by rw [z])] at h;refine ⟨_,rfl,rfl,_,rfl,gS (fun c=>?_) (fun c=>?_)⟩
 ·rw [if_pos (sZ (kd c))] at h;refine ⟨_,rfl,_,rfl,_,_,rfl,rfl,_,rfl,gS (fun c2=>?_) (fun c2=>?_)⟩
  ·rw [if_pos (kd c2)] at h;exact h
  ·rw [if_neg (kA c2)] at h;exact h
 rw [if_neg fun z=>kA c (by rw [z])] at h;refine ⟨_,rfl,rfl,_,rfl,gS (fun c=>?_) (fun c=>?_)⟩
 ·rw [if_pos (sZ (kd c))] at h;refine ⟨_,rfl,_,rfl,rfl,_,rfl,gS (fun c2=>?_) (fun c2=>?_)⟩
  ·rw [if_pos (xX (kd c2))] at h;exact h
  ·rw [if_neg fun z=>kA c2 (by rw [z])] at h;exact h
 rw [if_neg fun z=>kA c (by rw [z])] at h;refine ⟨_,rfl,_,rfl,_,rfl,k,a,b,rfl,hb,fun z=>?_,fun z1 z2=>?_,fun z1 z2=>?_⟩
 ·rw [if_pos z] at h;exact h
 ·rw [if_neg z1,if_pos z2] at h;exact h
 ·rw [if_neg z1,if_neg z2] at h;exact h
structure Holds (K:ae) (CS:aa) (bs qs:List Str) (H:Hp) (st gl:aa) (e:xW):Prop where
 ex:∃ (dx bd qd:aa) (fs:List (Str×V)) (bk qk:List (Key×V)),H st=some (.ins CS dx fs)/\fs.lookup ("boxes":Str)=some (.ref bd)/\fs.lookup ("queues":Str)=some (.ref qd)/\H bd=some (.dK bk)/\H qd=some (.dK qk) /\
  (∀ x∈bs,lI bk (Sum.inr x)=some (.int (e.bx x)))/\(∀ x∈qs,∃ l xs,lI qk (Sum.inr x)=some (.ref l)/\H l=some (.lst xs)/\xs.length=e.lg x)
 hgl:H gl=some (.lst [.int e.g0,.int e.g1])
inductive Br (K:ae) (CS:aa) (bs qs:List Str) (vs:List V) (H:Hp) (Q:VK) (_e:XK):Prop where
 | mk (v:V) (F:Fm) (st gl:aa) (e:xW) (_:vs=[v,.ref st,.int e.nw,.ref gl]) (_:ip bs qs H v F) (_:F.depth<=1) (_:Holds K CS bs qs H st gl e) (_:∀ r,ev e F=.ok r->Q (.int r) H):Br K CS bs qs vs H Q _e
def Fk (K:ae) (CS:aa) (bs qs:List Str):Sp:=fun vs H Q _e=>Br K CS bs qs vs H Q _e
theorem scLf:cv ["formula","state","now","got","kind"] ["formula","state","now","got"] (aQ gz):={}
theorem Fl:¬ (("box":Str)="number")/\¬ (("long":Str)="number")/\¬ (("long":Str)="box")/\¬ (("got":Str)="number")/\¬ (("got":Str)="box")/\¬ (("got":Str)="long")/\¬ (("now":Str)="number")/\¬ (("now":Str)="box")/\¬ (("now":Str)="long")/\¬ (("now":Str)="got"):=by decide +kernel
theorem uk {a b:Str} (h:¬ a=b):decide (V.str a=V.str b)=false:=decide_eq_false fun z=>h (V.str.inj z)
theorem CV (a:Str):decide (V.str a=V.str a)=true:=decide_eq_true rfl
theorem mU {c:Bool} {b:Bool} {p q:Prop} (h:c=b) (t:if b=true then p else q):if c=true then p else q:=by
 rw [h];exact t
theorem Ig {bs qs:List Str} (D:Df K mg "number_of_leaf" gz ["formula","state","now","got"] f fd) (T:MdT K mg CM CS) (B:Bl mg):cm P w K mg base CX0 1 f fd ["formula","state","now","got"] (Fk K CS bs qs):=by
 refine D.F.ok scLf (fun vs H Q E h=>?_) (fun cdv A outer s H vs Q E hr h=>?_)
 ·obtain ⟨v,F,st,gl,e,rfl,_⟩:=h;rfl
 obtain ⟨v,F,st,gl,e,rfl,hF,hd,⟨⟨dx,bd,qd,fs,bk,qk,h1,h2,h3,h4,h5,h6,h7⟩,h8⟩,q⟩:=h;have hu:=qx hr;refine ⟨_,ak (aZ (i:=4) scLf.nd rfl (Or.inl rfl) (bT cL (pv 0) aw (fun _ _=>rfl)))
  (ak (cS (bM eG (pv 4) cA (cj _)) (aF (bQ (bT cL (pv 0) aw (fun _ _=>rfl)))) cq)
  (ak (cS (bM eG (pv 4) cA (cj _)) (aF (bQ (rp hu (cW (pv 1) rfl) (bT cL (pv 0) aw (fun _ _=>rfl)) (fun _ _=>rfl)))) cq)
  (ak (cS (bM eG (pv 4) cA (cj _)) (aF (bQ (dB iN (by rfl) B.len cG (av (rp hu (cW (pv 1) rfl) (bT cL (pv 0) aw (fun _ _=>rfl)) (fun _ _=>rfl)) ao)))) cq)
  (ak (cS (bM eG (pv 4) cA (cj _)) (aF (bQ (bT cV (pv 3) (bT cL (pv 0) aw (fun _ _=>rfl)) (fun _ _=>rfl)))) cq)
  (aF (bQ (pv 2))))))),?_⟩
 obtain ⟨k1,k2,k3,k4,k5,k6,k7,k8,k9,k10⟩:=Fl
 cases hF with
 | @num t n ht hn =>
  refine ⟨_,rfl,t,_,_,_,rfl,rfl,SqT.of ht,rfl,_,rfl,rfl,_,rfl,mU (CV _) (iF ?_)⟩;exact ⟨_,rfl,t,_,_,_,rfl,rfl,SqT.of ht,rfl,q _ rfl⟩
 | @box t x ht hx =>
  refine ⟨_,rfl,t,_,_,_,rfl,rfl,SqT.of ht,rfl,_,rfl,rfl,_,rfl,mU (uk k1) (gi ?_)⟩;refine ⟨_,rfl,rfl,_,rfl,mU (CV _) (iF ?_)⟩;exact ⟨_,rfl,st,CS,dx,_,_,rfl,h1,T.clS,T.nB,h2,_,rfl,t,_,_,_,rfl,rfl,SqT.of ht,rfl,bd,_,rfl,(by have z:=rm.k (k:=Sum.inr x) h4; rw [h6 x hx] at z; exact z),q _ rfl⟩
 | @long t x ht hx =>
  obtain ⟨l,xs,g1,g2,g3⟩:=h7 x hx;refine ⟨_,rfl,t,_,_,_,rfl,rfl,SqT.of ht,rfl,_,rfl,rfl,_,rfl,mU (uk k2) (gi ?_)⟩;refine ⟨_,rfl,rfl,_,rfl,mU (uk k3) (gi ?_)⟩;refine ⟨_,rfl,rfl,_,rfl,mU (CV _) (iF ?_)⟩;exact ⟨_,rfl,st,CS,dx,_,_,rfl,h1,T.clS,T.nQ,h3,_,rfl,t,_,_,_,rfl,rfl,SqT.of ht,rfl,qd,_,rfl,(by have z:=rm.k (k:=Sum.inr x) h5; rw [g1] at z; exact z),l,xs,rfl,.inl (SqL.of g2),q _ (by rw [g3]; rfl)⟩
 | @got t j ht =>
  refine ⟨_,rfl,t,_,_,_,rfl,rfl,SqT.of ht,rfl,_,rfl,rfl,_,rfl,mU (uk k4) (gi ?_)⟩;refine ⟨_,rfl,rfl,_,rfl,mU (uk k5) (gi ?_)⟩;refine ⟨_,rfl,rfl,_,rfl,mU (uk k6) (gi ?_)⟩;refine ⟨_,rfl,rfl,_,rfl,mU (CV _) (iF ?_)⟩
  cases j
  ·exact ⟨_,rfl,_,rfl,t,_,_,_,rfl,rfl,SqT.of ht,rfl,gl,_,_,_,rfl,rfl,SqL.of h8,rfl,q _ rfl⟩
  ·exact ⟨_,rfl,_,rfl,t,_,_,_,rfl,rfl,SqT.of ht,rfl,gl,_,_,_,rfl,rfl,SqL.of h8,rfl,q _ rfl⟩
 | @now t ht =>
  refine ⟨_,rfl,t,_,_,_,rfl,rfl,SqT.of ht,rfl,_,rfl,rfl,_,rfl,mU (uk k7) (gi ?_)⟩;refine ⟨_,rfl,rfl,_,rfl,mU (uk k8) (gi ?_)⟩;refine ⟨_,rfl,rfl,_,rfl,mU (uk k9) (gi ?_)⟩;refine ⟨_,rfl,rfl,_,rfl,mU (uk k10) (gi ?_)⟩;exact ⟨_,rfl,q _ rfl⟩
 | @two t k u v f1 f2 ht hk h1 h2 =>
  have z1:0 < f1.depth:=by cases f1 <;> exact fJ _
  unfold Fm.depth at hd;omega
inductive JI (K:ae) (CS CN CG:aa) (bs qs:List Str) (n:Nat) (vs:List V) (H:Hp) (Q:VK) (E:XK):Prop where
 | mk (v:V) (F:Fm) (st gl:aa) (e:xW) (_:vs=[v,.ref st,.int e.nw,.ref gl]) (_:ip bs qs H v F) (_:F.depth<=n) (_:Holds K CS bs qs H st gl e) (_:e.Ok bs qs) (_:wW CN CG (ev e F) Q E H):JI K CS CN CG bs qs n vs H Q E
def Fn (K:ae) (CS CN CG:aa) (bs qs:List Str) (n:Nat):Sp:=fun vs H Q E=>JI K CS CN CG bs qs n vs H Q E
theorem Fo:cv ["formula","state","now","got","first","second","number"] ["formula","state","now","got"] (aQ kZ):={}
theorem Ih {bs qs:List Str} {H:Hp} {v:V} {F:Fm} (h:ip bs qs H v F):(∃ t xs,v=.ref t/\H t=some (.tup xs)/\¬ (xs.length:Int)=3/\F.depth<=1/\∀ e:xW,∃ r,ev e F=.ok r) \/
  ∃ t k u w f g,v=.ref t/\F=.two k f g/\H t=some (.tup [.str k,u,w])/\k∈Bq/\ip bs qs H u f/\ip bs qs H w g:=by
 cases h with
 | num h1 h2=>exact .inl ⟨_,_,rfl,h1,by show ¬ ((2:Nat):Int)=3; decide,aE _,fun e=>⟨_,rfl⟩⟩
 | box h1 h2=>exact .inl ⟨_,_,rfl,h1,by show ¬ ((2:Nat):Int)=3; decide,aE _,fun e=>⟨_,rfl⟩⟩
 | long h1 h2=>exact .inl ⟨_,_,rfl,h1,by show ¬ ((2:Nat):Int)=3; decide,aE _,fun e=>⟨_,rfl⟩⟩
 | got h1=>exact .inl ⟨_,_,rfl,h1,by show ¬ ((2:Nat):Int)=3; decide,aE _,fun e=>⟨_,rfl⟩⟩
 | now h1=>exact .inl ⟨_,_,rfl,h1,by show ¬ ((1:Nat):Int)=3; decide,aE _,fun e=>⟨_,rfl⟩⟩
 | two h1 h2 h3 h4=>exact .inr ⟨_,_,_,_,_,_,rfl,rfl,h1,h2,h3,h4⟩
theorem Ii {bs qs:List Str} {n:Nat} (D:Df K mg "worth_of" kZ ["formula","state","now","got"] f fd) (DT:Df K mg "number_of_two" gO ["kind","first","second"] fT fdT) (DD:Df K mg "number_of_division" d9 ["kind","first","second"] fD fdD)
  (DL:Df K mg "number_of_leaf" gz ["formula","state","now","got"] fL fdL) (T:Fts K mg CN CG) (TM:MdT K mg CM CS) (B:Bl mg) (G:cm P w K mg base (CXo P w) (n + 2) f fd ["formula","state","now","got"] (Fn K CS CN CG bs qs n)) :
  cm P w K mg base (CXo P w) (n + 3) f fd ["formula","state","now","got"] (Fn K CS CN CG bs qs (n + 1)):=by
 have GT:cm P w K mg base (CXo P w) 2 fT fdT ["kind","first","second"] (JH CN CG):=Lg DT DD T;have GL:cm P w K mg base CX0 1 fL fdL ["formula","state","now","got"] (Fk K CS bs qs):=Ig DL TM B;refine D.F.okX Fo (fun vs H Q E h=>?_) (fun cdv A outer s H vs Q E hr h=>?_)
 ·obtain ⟨v,F,st,gl,e,rfl,_⟩:=h;rfl
 obtain ⟨v,F,st,gl,e,rfl,hF,hd,ho,eo,h⟩:=h;have r2:d5 2 _:=hr.mono (by omega);have r1:d5 1 _:=hr.mono (by omega);refine ⟨_,ak (cS (bM eG (dB iN (by rfl) B.len cG (av (pv 0) ao)) aw (cj _))
   (ak (aZ (i:=4) Fo.nd rfl (Or.inl rfl) (aO G hr rfl D.m D.F.kp D.b .nil (d6.passes fun _ _ _ z=>z) (av (bT cL (pv 0) aw (fun _ _=>rfl)) (av (pv 1) (av (pv 2) (av (pv 3) ao))))))
   (ak (aZ (i:=5) Fo.nd rfl (Or.inl rfl) (aO G hr rfl D.m D.F.kp D.b .nil (d6.passes fun _ _ _ z=>z) (av (bT cL (pv 0) aw (fun _ _=>rfl)) (av (pv 1) (av (pv 2) (av (pv 3) ao))))))
   (aF (aZ (i:=6) Fo.nd rfl (Or.inl rfl) (aO GT r2 rfl DT.m DT.F.kp DT.b .nil (d6.passes fun _ _ _ z=>z) (av (bT cL (pv 0) aw (fun _ _=>rfl)) (av (pv 4) (av (pv 5) ao))))))))
   (aF (aZ (i:=6) Fo.nd rfl (Or.inl rfl) (aO GL r1 rfl DL.m DL.F.kp DL.b .nil bY (av (pv 0) (av (pv 1) (av (pv 2) (av (pv 3) ao))))))))
  (ak (cS (bM wj (dB yJ (by rfl) B.abs boot_abs (av (pv 6) ao)) (cC xw aw aw) (cj _)) (aF (kU d6 rfl rfl T.mG T.xG (av cA ao))) cq)
  (aF (bQ (pv 6)))),?_⟩
 have c15:Ef 10 15:=⟨by decide,by decide,by decide⟩;have l1:1<=au:=by decide
 rcases Ih hF with ⟨t,xs,rfl,ht,hx,hd1,hv⟩ | ⟨t,k,u,v',f1,f2,rfl,rfl,ht,hk,h1,h2⟩
 ·obtain ⟨r,hr'⟩:=hv e;refine ⟨_,rfl,t,_,rfl,.inr (SqT.of ht),rfl,_,rfl,gS (fun c=>absurd (xX (kd c)) hx) (fun c=>?_)⟩;refine ⟨_,rfl,_,rfl,_,rfl,_,rfl,.ref t,F,st,gl,e,rfl,hF,hd1,ho,fun r' hr2=>?_⟩;refine ⟨_,rfl,_,rfl,_,_,rfl,rfl,c15,_,_,rfl,rfl,_,rfl,gS (fun c=>?_) (fun c=>?_)⟩
  ·exact absurd (kd c) (Fh (tY eo hF hr2))
  ·rw [hr2] at h;exact ⟨_,rfl,h⟩
 ·have d1:f1.depth<=n:=by
   unfold Fm.depth at hd;omega
  have d2:f2.depth<=n:=by
   unfold Fm.depth at hd;omega
  refine ⟨_,rfl,t,_,rfl,.inr (SqT.of ht),rfl,_,rfl,gS (fun c=>?_) (fun c=>absurd rfl (kA c))⟩;refine ⟨_,rfl,t,_,_,_,rfl,rfl,SqT.of ht,rfl,_,rfl,_,rfl,_,rfl,u,f1,st,gl,e,rfl,h1,d1,ho,eo,?_⟩;unfold ev at h
  cases e1:ev e f1 with
  | nought=>rw [e1] at h; exact h
  | great=>rw [e1] at h; exact h
  | ok a =>
   rw [e1] at h;refine ⟨_,rfl,t,_,_,_,rfl,rfl,SqT.of ht,rfl,_,rfl,_,rfl,_,rfl,v',f2,st,gl,e,rfl,h2,d2,ho,eo,?_⟩
   cases e2:ev e f2 with
   | nought=>rw [e2] at h; exact h
   | great=>rw [e2] at h; exact h
   | ok b =>
    rw [e2] at h;have h:wW CN CG (cap (zd k a b)) Q E H:=h;refine ⟨_,rfl,t,_,_,_,rfl,rfl,SqT.of ht,rfl,_,rfl,_,rfl,k,a,b,rfl,tY eo h1 e1,tY eo h2 e2,?_⟩
    cases e3:zd k a b with
    | nought=>rw [e3] at h; exact h
    | great=>rw [e3] at h; exact h
    | ok r =>
     rw [e3] at h;have h':wW CN CG (if 10 ^ 15 < rH r then .great else .ok r) Q E H:=h;refine ⟨_,rfl,_,rfl,_,_,rfl,rfl,c15,_,_,rfl,rfl,_,rfl,gS (fun c=>?_) (fun c=>?_)⟩
     ·rw [if_pos (show 10 ^ 15 < rH r from kd c)] at h';exact ⟨l1,h'⟩
     ·rw [if_neg (show ¬ 10 ^ 15 < rH r from kA c)] at h';exact ⟨_,rfl,h'⟩
theorem CW (F:Fm):0 < F.depth:=by cases F <;> exact fJ _
theorem JJ {bs qs:List Str} (D:Df K mg "worth_of" kZ ["formula","state","now","got"] f fd) (DT:Df K mg "number_of_two" gO ["kind","first","second"] fT fdT) (DD:Df K mg "number_of_division" d9 ["kind","first","second"] fD fdD)
  (DL:Df K mg "number_of_leaf" gz ["formula","state","now","got"] fL fdL) (T:Fts K mg CN CG) (TM:MdT K mg CM CS) (B:Bl mg):∀ n:Nat,cm P w K mg base (CXo P w) (n + 2) f fd ["formula","state","now","got"] (Fn K CS CN CG bs qs n)
 | 0=>by
  have no:∀ vs H Q E,¬ Fn K CS CN CG bs qs 0 vs H Q E:=fun vs H Q E h=>by
   obtain ⟨v,F,st,gl,e,_,_,hd,_⟩:=h;have:=CW F;omega
  exact ⟨fun vs H Q E h=>absurd h (no vs H Q E),fun A outer s H args us vs Q E _ _ _ _ h=>absurd h (no vs H Q E)⟩
 | n + 1=>Ii D DT DD DL T TM B (JJ D DT DD DL T TM B n)
end
mutual
inductive Dd where
 | put (x:Str) (f:Fm)
 | push (q:Str) (f:Fm)
 | pull (q x:Str) (o:Ds)
 | draw (x:Str) (f:Fm)
 | send (to:Int) (sg:Str) (sp:Fm) (rk:Int) (a b:Fm)
 | ife (f:Fm) (t e:Ds)
 | fin
inductive Ds where
 | nil
 | cons (d:Dd) (r:Ds)
end
inductive Flt where
 | nought
 | great
 | full
 | dry
 | span
 | late
structure Ev where
 t:Int
 r:Int
 fr:Int
 c:Int
 to:Int
 sg:Str
 a:Int
 b:Int
structure Wk where
 bx:List (Str×Int)
 qu:List (Str×List Int)
 dr:Nat
 se:Int
 wr:List Str
 out:List Ev
 en:Bool
 rk:List Fm
 qn:List Str
def Wk.len (w:Wk):Nat:=w.out.length + w.rk.length
def vi (ps:List (Str×Int)) (x:Str):Int:=(ps.lookup x).getD 0
def iZ (ps:List (Str×List Int)) (x:Str):List Int:=(ps.lookup x).getD []
def mV {α:Type} (ps:List (Str×α)) (x:Str) (n:α):List (Str×α):=ps.map fun p=>if p.1=x then (p.1,n) else p
def lL (xs:List Str) (x:Str):List Str:=if x∈xs then xs else xs++[x]
def ze (h:Ev) (w:Wk):xW:=⟨vi w.bx,fun q=>(iZ w.qu q).length,h.a,h.b,h.t⟩
def rck (h:Ev) (w:Wk) (f:Fm) (k:Wk->Int->Except Flt Wk):Except Flt Wk:=match ev (ze h w) f with
 | .ok n=>k {w with rk:=w.rk++[f]} n
 | .nought=>.error .nought
 | .great=>.error .great
def Fp (w:Wk) (x:Str) (n:Int):Wk:={w with bx:=mV w.bx x n,wr:=lL w.wr x}
def sendW (h:Ev) (w:Wk) (to:Int) (sg:Str) (rk t a b:Int):Wk:={w with se:=w.se + 1,out:=w.out++[⟨t,rk,h.to,w.se,to,sg,a,b⟩]}
mutual
def doD (h:Ev) (ds:List Int):Dd->Wk->Except Flt Wk
 | .put x f,w=>rck h w f fun w n=>.ok (Fp w x n)
 | .push q f,w=>rck h w f fun w n=>if 30<=(iZ w.qu q).length then .error .full else .ok {w with qu:=mV w.qu q (iZ w.qu q++[n]),wr:=lL w.wr q,qn:=lL w.qn q}
 | .pull q x o,w=>match iZ w.qu q with
  | []=>doS h ds o {w with qn:=lL w.qn q}
  | n :: ns=>.ok {w with qu:=mV w.qu q ns,bx:=mV w.bx x n,wr:=lL (lL w.wr x) q,qn:=lL w.qn q}
 | .draw x f,w=>rck h w f fun w n=>if n < 1 then .error .nought else if ds=[] then .error .dry else .ok (Fp {w with dr:=w.dr + 1} x (ds.getD (w.dr % ds.length) 0 % n))
 | .send to sg sp rk a b,w=>rck h w sp fun w n=>if n < 1\/10 ^ 6 < n then .error .span else rck h w a fun w x=>rck h w b fun w y=>if 10 ^ 12 < h.t + n then .error .late else .ok (sendW h w to sg rk (h.t + n) x y)
 | .ife f t e,w=>rck h w f fun w n=>if n=0 then doS h ds e w else doS h ds t w
 | .fin,w=>.ok {w with en:=true}
def doS (h:Ev) (ds:List Int):Ds->Wk->Except Flt Wk
 | .nil,w=>.ok w
 | .cons d r,w=>match doD h ds d w with
  | .ok w'=>doS h ds r w'
  | .error e=>.error e
end
mutual
def Dd.deep:Dd->Nat
 | .pull _ _ o=>o.deep + 1
 | .ife _ t e=>max t.deep e.deep + 1
 | _=>0
def Ds.deep:Ds->Nat
 | .nil=>0
 | .cons d r=>max d.deep r.deep
end
def lR (H:Hp) (R:List V->Prop) (v:V):Prop:=∃ l vs,v=.ref l/\H l=some (.lst vs)/\vs.length < 1000/\R vs
def FmI (bs qs:List Str) (H:Hp) (v:V) (f:Fm):Prop:=ip bs qs H v f/\f.depth<=15
mutual
def eB (bs qs:List Str) (H:Hp):Dd->V->Prop
 | .put x f,v=>∃ t u,v=.ref t/\H t=some (.tup [.str "put",.str x,u])/\x∈bs/\FmI bs qs H u f
 | .push q f,v=>∃ t u,v=.ref t/\H t=some (.tup [.str "push",.str q,u])/\q∈qs/\FmI bs qs H u f
 | .pull q x o,v=>∃ t u,v=.ref t/\H t=some (.tup [.str "pull",.str q,.str x,u])/\q∈qs/\x∈bs/\lR H (eZ bs qs H o) u
 | .draw x f,v=>∃ t u,v=.ref t/\H t=some (.tup [.str "draw",.str x,u])/\x∈bs/\FmI bs qs H u f
 | .send to sg sp rk a b,v=>∃ t u u1 u2,v=.ref t/\H t=some (.tup [.str "send",.int to,.str sg,u,.int rk,u1,u2])/\FmI bs qs H u sp/\FmI bs qs H u1 a/\FmI bs qs H u2 b
 | .ife f x y,v=>∃ t u u1 u2,v=.ref t/\H t=some (.tup [.str "if",u,u1,u2])/\FmI bs qs H u f/\lR H (eZ bs qs H x) u1/\lR H (eZ bs qs H y) u2
 | .fin,v=>∃ t,v=.ref t/\H t=some (.tup [.str "end"])
def eZ (bs qs:List Str) (H:Hp):Ds->List V->Prop
 | .nil,vs=>vs=[]
 | .cons d r,vs=>∃ v vr,vs=v :: vr/\eB bs qs H d v/\eZ bs qs H r vr
end
theorem lR.same {H H':Hp} (s:bj H H') {R R':List V->Prop} (f:∀ vs,R vs->R' vs) {v:V} (h:lR H R v):lR H' R' v:=by
 obtain ⟨l,vs,e,h1,h2,h3⟩:=h;exact ⟨l,vs,e,s _ _ h1,h2,f vs h3⟩
theorem FmI.same {bs qs:List Str} {H H':Hp} (s:bj H H') {v:V} {f:Fm} (h:FmI bs qs H v f):FmI bs qs H' v f:=⟨h.1.same s,h.2⟩
mutual
theorem eB.same {bs qs:List Str} {H H':Hp} (s:bj H H'):∀ (d:Dd) (v:V),eB bs qs H d v->eB bs qs H' d v
 | .put x f,v,h=>by
  obtain ⟨t,u,e,h1,h2,h3⟩:=(by simpa only [eB] using h);simp only [eB];exact ⟨t,u,e,s _ _ h1,h2,h3.same s⟩
 | .push q f,v,h=>by
  obtain ⟨t,u,e,h1,h2,h3⟩:=(by simpa only [eB] using h);simp only [eB];exact ⟨t,u,e,s _ _ h1,h2,h3.same s⟩
 | .pull q x o,v,h=>by
  obtain ⟨t,u,e,h1,h2,h3,h4⟩:=(by simpa only [eB] using h);simp only [eB];exact ⟨t,u,e,s _ _ h1,h2,h3,h4.same s (eZ.same s o)⟩
 | .draw x f,v,h=>by
  obtain ⟨t,u,e,h1,h2,h3⟩:=(by simpa only [eB] using h);simp only [eB];exact ⟨t,u,e,s _ _ h1,h2,h3.same s⟩
 | .send to sg sp rk a b,v,h=>by
  obtain ⟨t,u,u1,u2,e,h1,h2,h3,h4⟩:=(by simpa only [eB] using h);simp only [eB];exact ⟨t,u,u1,u2,e,s _ _ h1,h2.same s,h3.same s,h4.same s⟩
 | .ife f x y,v,h=>by
  obtain ⟨t,u,u1,u2,e,h1,h2,h3,h4⟩:=(by simpa only [eB] using h);simp only [eB];exact ⟨t,u,u1,u2,e,s _ _ h1,h2.same s,h3.same s (eZ.same s x),h4.same s (eZ.same s y)⟩
 | .fin,v,h=>by
  obtain ⟨t,e,h1⟩:=(by simpa only [eB] using h);simp only [eB];exact ⟨t,e,s _ _ h1⟩
theorem eZ.same {bs qs:List Str} {H H':Hp} (s:bj H H'):∀ (d:Ds) (vs:List V),eZ bs qs H d vs->eZ bs qs H' d vs
 | .nil,vs,h=>by
  simpa only [eZ] using h
 | .cons d r,vs,h=>by
  obtain ⟨v,vr,e,h1,h2⟩:=(by simpa only [eZ] using h);simp only [eZ];exact ⟨v,vr,e,eB.same s d v h1,eZ.same s r vr h2⟩
end
def gK (H:Hp) (v:V) (e:Ev):Prop:=∃ t k,v=.ref t/\H t=some (.tup [.ref k,.int e.to,.str e.sg,.int e.a,.int e.b])/\H k=some (.tup [.int e.t,.int e.r,.int e.fr,.int e.c])
theorem gK.same {H H':Hp} (s:bj H H') {v:V} {e:Ev} (h:gK H v e):gK H' v e:=by
 obtain ⟨t,k,e1,h1,h2⟩:=h;exact ⟨t,k,e1,s _ _ h1,s _ _ h2⟩
def boK (ps:List (Str×Int)):List (Key×V):=ps.map fun p=>((Sum.inr p.1:Key),V.int p.2)
def quK (ps:List (Str×aa)):List (Key×V):=ps.map fun p=>((Sum.inr p.1:Key),V.ref p.2)
def wrK (xs:List Str):List (Key×V):=xs.map fun x=>((Sum.inr x:Key),V.bl true)
theorem rJ {α:Type} (g:α->V) (x:Str):∀ ps:List (Str×α),lI (ps.map fun p=>((Sum.inr p.1:Key),g p.2)) (Sum.inr x)=(ps.lookup x).map g
 | []=>rfl
 | p :: ps=>by
  rw [cu]
  by_cases c:p.1=x
  ·rw [oZ (by rw [c])];obtain ⟨a,b⟩:=p;dsimp only at c;subst c;rw [bO];rfl
  ·rw [o4 (fun z=>c (iB z)),rJ g x ps];obtain ⟨a,b⟩:=p;dsimp only at c;rw [cD];have:(x == a)=false:=beq_eq_false_iff_ne.mpr fun z=>c z.symm;rw [this]
theorem Ij {α:Type} (g:α->V) (x:Str) (n:α) {ps:List (Str×α)} (h:(ps.lookup x).isSome=true):jI (ps.map fun p=>((Sum.inr p.1:Key),g p.2)) (Sum.inr x) (g n)=(mV ps x n).map fun p=>((Sum.inr p.1:Key),g p.2):=by
 unfold jI;rw [kT,rJ,rY,h,if_pos rfl];unfold mV;rw [eg,eg];apply jc;intro p _
 by_cases c:p.1=x
 ·simp only [qp,c,if_true]
 ·simp only [qp,if_neg c,if_neg (fun z=>c (iB z):¬ (Sum.inr p.1:Key)=Sum.inr x)]
theorem Bs (xs:List Str) (x:Str):lI (wrK xs) (Sum.inr x)=if x∈xs then some (.bl true) else none:=by
 induction xs with
 | nil=>rfl
 | cons y xs ih =>
  unfold wrK at ih |-;rw [cu]
  by_cases c:y=x
  ·rw [oZ (by rw [c]),if_pos (by rw [c]; exact aD)]
  ·rw [o4 (fun z=>c (iB z)),ih]
   by_cases m:x∈xs
   ·rw [if_pos m,if_pos (ah _ m)]
   ·rw [if_neg m,if_neg];intro z
    rcases ay.mp z with z | z
    ·exact c z.symm
    ·exact m z
theorem Bt (xs:List Str) (x:Str):jI (wrK xs) (Sum.inr x) (.bl true)=wrK (lL xs x):=by
 unfold jI;rw [kT,Bs]
 by_cases m:x∈xs
 ·rw [if_pos m];unfold lL;rw [if_pos m];show (if true=true then _ else _)=_;rw [if_pos rfl];unfold wrK;rw [eg];apply jc;intro y _
  by_cases c:y=x
  ·simp only [qp,c,if_true]
  ·simp only [qp,if_neg (fun z=>c (iB z):¬ (Sum.inr y:Key)=Sum.inr x)]
 ·rw [if_neg m];unfold lL;rw [if_neg m];show (if false=true then _ else _)=_;rw [if_neg (by decide)];unfold wrK;rw [bV];rfl
theorem wX {α:Type} (ps:List (Str×α)) (x:Str) (n:α):(mV ps x n).map (·.1)=ps.map (·.1):=by
 unfold mV;rw [eg];apply jc;intro p _;show (if p.1=x then (p.1,n) else p).1=p.1
 split <;> rfl
theorem kJ {α:Type} {x:Str}:∀ {ps:List (Str×α)},x∈ps.map (·.1)->∃ a,ps.lookup x=some a/\(x,a)∈ps
 | [],h=>by cases h
 | p :: ps,h=>by
  obtain ⟨k,a⟩:=p
  by_cases c:x=k
  ·subst c;exact ⟨a,bO,aD⟩
  ·have h':x∈ps.map (·.1):=by
    rcases ay.mp h with z | z
    ·exact absurd z c
    ·exact z
   obtain ⟨b,h1,h2⟩:=kJ h';refine ⟨b,?_,ah _ h2⟩;rw [cD,beq_eq_false_iff_ne.mpr c];exact h1
theorem zf {α:Type} {x:Str} {n:α} {ps:List (Str×α)} {q:Str×α} (h:q∈mV ps x n):q∈ps\/q.2=n:=by
 obtain ⟨p,hp,e⟩:=cB.mp h
 by_cases c:p.1=x
 ·rw [if_pos c] at e;subst e;exact .inr rfl
 ·rw [if_neg c] at e;subst e;exact .inl hp
structure DT (K:ae) (mg:Str->Option af) (CD:aa):Prop where
 cl:Cls K CD
 nM:eV K CD "machine"
 nH:eV K CD "happening"
 nS:eV K CD "state"
 nW:eV K CD "written"
 nO:eV K CD "outgoing"
 nE:eV K CD "ends"
 nR:eV K CD "reckoned"
 nQ:eV K CD "queued"
 mD:mg "Doing"=some (.ref CD)
def dF (m h:V) (st wd od:aa) (en:Bool) (rd ud:aa):List (Str×V):=[("machine",m),("happening",h),("state",.ref st),("written",.ref wd),("outgoing",.ref od),("ends",.bl en),("reckoned",.ref rd),("queued",.ref ud)]
abbrev Ar:List Str:=["machine","happening","state","written","outgoing","ends","reckoned","queued"]
theorem Lh (m h:V) (st wd od:aa) (en:Bool) (rd ud:aa):(dF m h st wd od en rd ud).lookup ("machine":Str)=some m:=bO
theorem dX {k x:Str} {v:V} {r:List (Str×V)} (h:(x == k)=false):((k,v) :: r).lookup x=r.lookup x:=by rw [cD,h]
theorem Ik (m h:V) (st wd od:aa) (en:Bool) (rd ud:aa):(dF m h st wd od en rd ud).lookup ("happening":Str)=some h:=by
 unfold dF;rw [dX (by decide +kernel),bO]
theorem vW (m h:V) (st wd od:aa) (en:Bool) (rd ud:aa):(dF m h st wd od en rd ud).lookup ("state":Str)=some (.ref st):=by
 unfold dF;rw [dX (by decide +kernel),dX (by decide +kernel),bO]
theorem Fq (m h:V) (st wd od:aa) (en:Bool) (rd ud:aa):(dF m h st wd od en rd ud).lookup ("written":Str)=some (.ref wd):=by
 unfold dF;rw [dX (by decide +kernel),dX (by decide +kernel),dX (by decide +kernel),bO]
theorem dF_o (m h:V) (st wd od:aa) (en:Bool) (rd ud:aa):(dF m h st wd od en rd ud).lookup ("outgoing":Str)=some (.ref od):=by
 unfold dF;rw [dX (by decide +kernel),dX (by decide +kernel),dX (by decide +kernel),dX (by decide +kernel),bO]
theorem dF_e (m h:V) (st wd od:aa) (en:Bool) (rd ud:aa):(dF m h st wd od en rd ud).lookup ("ends":Str)=some (.bl en):=by
 unfold dF;rw [dX (by decide +kernel),dX (by decide +kernel),dX (by decide +kernel),dX (by decide +kernel),dX (by decide +kernel),bO]
theorem dF_r (m h:V) (st wd od:aa) (en:Bool) (rd ud:aa):(dF m h st wd od en rd ud).lookup ("reckoned":Str)=some (.ref rd):=by
 unfold dF;rw [dX (by decide +kernel),dX (by decide +kernel),dX (by decide +kernel),dX (by decide +kernel),dX (by decide +kernel),dX (by decide +kernel),bO]
theorem dF_u (m h:V) (st wd od:aa) (en:Bool) (rd ud:aa):(dF m h st wd od en rd ud).lookup ("queued":Str)=some (.ref ud):=by
 unfold dF;rw [dX (by decide +kernel),dX (by decide +kernel),dX (by decide +kernel),dX (by decide +kernel),dX (by decide +kernel),dX (by decide +kernel),dX (by decide +kernel),bO]
theorem oA (m h:V) (st wd od:aa) (en:Bool) (rd ud:aa) {x:Str} (hx:Ar.contains x=false):(dF m h st wd od en rd ud).lookup x=none:=by
 have z:∀ k∈Ar,(x == k)=false:=fun k hk=>beq_eq_false_iff_ne.mpr fun e=>by
  rw [e,p5.mpr hk] at hx
  cases hx
 unfold dF;rw [dX (z _ (by simp)),dX (z _ (by simp)),dX (z _ (by simp)),dX (z _ (by simp)),dX (z _ (by simp)),dX (z _ (by simp)),dX (z _ (by simp)),dX (z _ (by simp))];rfl
theorem sne {a b:Str} (h:(a == b)=false):¬ a=b:=fun e=>by
 rw [e,beq_self_eq_true] at h
 cases h
theorem Li (m h:V) (st wd od:aa) (en:Bool) (rd ud:aa):dM "queued" (.ref ud) (dM "reckoned" (.ref rd) (dM "ends" (.bl en) (dM "outgoing" (.ref od) (dM "written" (.ref wd) (dM "state" (.ref st) (dM "happening" h (dM "machine" m [])))))))=dF m h st wd od en rd ud:=by
 simp only [dF,dM,if_neg (sne (a:="machine") (b:="happening") (by decide +kernel)),if_neg (sne (a:="machine") (b:="state") (by decide +kernel)),if_neg (sne (a:="machine") (b:="written") (by decide +kernel)),if_neg (sne (a:="machine") (b:="outgoing") (by decide +kernel)),if_neg (sne (a:="machine") (b:="ends") (by decide +kernel)),if_neg (sne (a:="machine") (b:="reckoned") (by decide +kernel)),if_neg (sne (a:="machine") (b:="queued") (by decide +kernel)),if_neg (sne (a:="happening") (b:="state") (by decide +kernel)),if_neg (sne (a:="happening") (b:="written") (by decide +kernel)),if_neg (sne (a:="happening") (b:="outgoing") (by decide +kernel)),if_neg (sne (a:="happening") (b:="ends") (by decide +kernel)),if_neg (sne (a:="happening") (b:="reckoned") (by decide +kernel)),if_neg (sne (a:="happening") (b:="queued") (by decide +kernel)),if_neg (sne (a:="state") (b:="written") (by decide +kernel)),if_neg (sne (a:="state") (b:="outgoing") (by decide +kernel)),if_neg (sne (a:="state") (b:="ends") (by decide +kernel)),if_neg (sne (a:="state") (b:="reckoned") (by decide +kernel)),if_neg (sne (a:="state") (b:="queued") (by decide +kernel)),if_neg (sne (a:="written") (b:="outgoing") (by decide +kernel)),if_neg (sne (a:="written") (b:="ends") (by decide +kernel)),if_neg (sne (a:="written") (b:="reckoned") (by decide +kernel)),if_neg (sne (a:="written") (b:="queued") (by decide +kernel)),if_neg (sne (a:="outgoing") (b:="ends") (by decide +kernel)),if_neg (sne (a:="outgoing") (b:="reckoned") (by decide +kernel)),if_neg (sne (a:="outgoing") (b:="queued") (by decide +kernel)),if_neg (sne (a:="ends") (b:="reckoned") (by decide +kernel)),if_neg (sne (a:="ends") (b:="queued") (by decide +kernel)),if_neg (sne (a:="reckoned") (b:="queued") (by decide +kernel))]
theorem Lj (m h:V) (st wd od:aa) (en e2:Bool) (rd ud:aa):dM "ends" (.bl e2) (dF m h st wd od en rd ud)=dF m h st wd od e2 rd ud:=by
 simp only [dF,dM,if_neg (sne (a:="machine") (b:="ends") (by decide +kernel)),if_neg (sne (a:="happening") (b:="ends") (by decide +kernel)),if_neg (sne (a:="state") (b:="ends") (by decide +kernel)),if_neg (sne (a:="written") (b:="ends") (by decide +kernel)),if_neg (sne (a:="outgoing") (b:="ends") (by decide +kernel)),if_true]
theorem jW (b q d e:V):nZ b q d e=([("boxes",b),("queues",q),("drawn",d),("sent",e)]:List (Str×V)):=by
 simp only [nZ,dM,if_neg (sne (a:="boxes") (b:="queues") (by decide +kernel)),if_neg (sne (a:="boxes") (b:="drawn") (by decide +kernel)),if_neg (sne (a:="boxes") (b:="sent") (by decide +kernel)),if_neg (sne (a:="queues") (b:="drawn") (by decide +kernel)),if_neg (sne (a:="queues") (b:="sent") (by decide +kernel)),if_neg (sne (a:="drawn") (b:="sent") (by decide +kernel))]
theorem Lk (b q d e d':V):dM "drawn" d' (nZ b q d e)=nZ b q d' e:=by
 rw [jW,jW];simp only [dM,if_neg (sne (a:="boxes") (b:="drawn") (by decide +kernel)),if_neg (sne (a:="queues") (b:="drawn") (by decide +kernel)),if_true]
theorem Ll (b q d e e':V):dM "sent" e' (nZ b q d e)=nZ b q d e':=by
 rw [jW,jW];simp only [dM,if_neg (sne (a:="boxes") (b:="sent") (by decide +kernel)),if_neg (sne (a:="queues") (b:="sent") (by decide +kernel)),if_neg (sne (a:="drawn") (b:="sent") (by decide +kernel)),if_true]
theorem Il (b q d e:V):(nZ b q d e).lookup ("boxes":Str)=some b:=by rw [jW,bO]
theorem Im (b q d e:V):(nZ b q d e).lookup ("queues":Str)=some q:=by rw [jW,dX (by decide +kernel),bO]
theorem Lm (b q d e:V):(nZ b q d e).lookup ("drawn":Str)=some d:=by rw [jW,dX (by decide +kernel),dX (by decide +kernel),bO]
theorem Ln (b q d e:V):(nZ b q d e).lookup ("sent":Str)=some e:=by rw [jW,dX (by decide +kernel),dX (by decide +kernel),dX (by decide +kernel),bO]
theorem st_no (b q d e:V) {x:Str} (hx:(["boxes","queues","drawn","sent"]:List Str).contains x=false):(nZ b q d e).lookup x=none:=by
 have z:∀ k∈(["boxes","queues","drawn","sent"]:List Str),(x == k)=false:=fun k hk=>beq_eq_false_iff_ne.mpr fun e=>by
  rw [e,p5.mpr hk] at hx
  cases hx
 rw [jW,dX (z _ (by simp)),dX (z _ (by simp)),dX (z _ (by simp)),dX (z _ (by simp))];rfl
theorem Fs (b q d e:V):(nZ b q d e).length < 1000:=by
 rw [jW];show 4 < 1000;decide
theorem Lo (m h:V) (st wd od:aa) (en:Bool) (rd ud:aa):(dF m h st wd od en rd ud).length < 1000:=by show 8 < 1000; decide
structure Lay where
 d:aa
 dx:aa
 st:aa
 dxs:aa
 bd:aa
 qd:aa
 wd:aa
 od:aa
 rd:aa
 ud:aa
 m:V
 hv:V
 qa:List (Str×aa)
def Lay.all (L:Lay):List aa:=L.d :: L.st :: L.bd :: L.qd :: L.wd :: L.od :: L.rd :: L.ud :: L.qa.map (·.2)
def gA (G:Hp):List (Str×aa)->List (Str×List Int)->Prop:=aI fun p q=>p.1=q.1/\G p.2=some (.lst (q.2.map V.int))
structure qq (bs qs:List Str) (w:Wk):Prop where
 kb:w.bx.map (·.1)=bs
 kq:w.qu.map (·.1)=qs
 nb:bs.Nodup
 nq:qs.Nodup
 wb:∀ p∈w.bx,Wo p.2
 wq:∀ p∈w.qu,p.2.length<=30/\∀ n∈p.2,Wo n
 nw:w.wr.Nodup
 sw:∀ x∈w.wr,x∈bs++qs
 nu:w.qn.Nodup
 su:∀ x∈w.qn,x∈bs++qs
 wo:∀ e∈w.out,Wo e.a/\Wo e.b
 fw:(bs++qs).length < 100
structure Dg (CD CS:aa) (bs qs:List Str) (H0 G:Hp) (L:Lay) (h:Ev) (ds:List Int) (w:Wk):Prop where
 sm:bj H0 G
 hd:G L.d=some (.ins CD L.dx (dF L.m L.hv L.st L.wd L.od w.en L.rd L.ud))
 hst:G L.st=some (.ins CS L.dxs (nZ (.ref L.bd) (.ref L.qd) (.int w.dr) (.int w.se)))
 hb:G L.bd=some (.dK (boK w.bx))
 hq:G L.qd=some (.dK (quK L.qa))
 hl:gA G L.qa w.qu
 hw:G L.wd=some (.dK (wrK w.wr))
 ho:∃ vs,G L.od=some (.lst vs)/\aI (gK G) vs w.out
 hr:∃ rs,G L.rd=some (.lst rs)/\aI (FmI bs qs H0) rs w.rk
 hu:G L.ud=some (.dK (wrK w.qn))
 hh:gK H0 L.hv h
 hm:∃ t x1 x2 x3 x4 dl,L.m=.ref t/\H0 t=some (.tup [x1,x2,x3,.ref dl,x4])/\H0 dl=some (.lst (ds.map V.int))
 nd:L.all.Nodup
 fr:∀ a∈L.all,H0 a=none
 ok:qq bs qs w
 wt:Wo h.t
 wa:Wo h.a
 wb:Wo h.b
section
variable {CD CS:aa} {bs qs:List Str} {H0 G G':Hp} {L:Lay} {h:Ev} {ds:List Int} {w:Wk}
theorem gA.keep (k:∀ a u,G a=some u->a∈L.qa.map (·.2)->G' a=some u) {qa:List (Str×aa)} {qu:List (Str×List Int)} (sub:∀ p∈qa,p∈L.qa) (q:gA G qa qu):gA G' qa qu:=by
 unfold gA at q |-
 induction q with
 | nil=>exact .nil
 | cons a _ ih=>exact .cons ⟨a.1,k _ _ a.2 (cB.mpr ⟨_,sub _ aD,rfl⟩)⟩ (ih fun p hp=>sub p (ah _ hp))
theorem Paired.mono {α β:Type} {R S:α->β->Prop} (f:∀ a b,R a b->S a b) {xs:List α} {ys:List β} (r:aI R xs ys):aI S xs ys:=L2.Paired.imp' f r
theorem Dg.same (g:Dg CD CS bs qs H0 G L h ds w) (s:bj G G'):Dg CD CS bs qs H0 G' L h ds w:=by
 obtain ⟨vs,o1,o2⟩:=g.ho;obtain ⟨rs,r1,r2⟩:=g.hr;exact ⟨g.sm.trans s,s _ _ g.hd,s _ _ g.hst,s _ _ g.hb,s _ _ g.hq,g.hl.keep (L:=L) (fun a u e _=>s _ _ e) (fun _ hp=>hp),s _ _ g.hw,⟨vs,s _ _ o1,Paired.mono (fun _ _ z=>z.same s) o2⟩,⟨rs,s _ _ r1,r2⟩,s _ _ g.hu,g.hh,g.hm,g.nd,g.fr,g.ok,g.wt,g.wa,g.wb⟩
structure Lay.Ne (L:Lay):Prop where
 ds:L.d≠L.st
 db:L.d≠L.bd
 dq:L.d≠L.qd
 dw:L.d≠L.wd
 do_:L.d≠L.od
 dr:L.d≠L.rd
 du:L.d≠L.ud
 dl:∀ a∈L.qa.map (·.2),L.d≠a
 sb:L.st≠L.bd
 sq:L.st≠L.qd
 sw:L.st≠L.wd
 so:L.st≠L.od
 sr:L.st≠L.rd
 su:L.st≠L.ud
 sl:∀ a∈L.qa.map (·.2),L.st≠a
 bq:L.bd≠L.qd
 bw:L.bd≠L.wd
 bo:L.bd≠L.od
 br:L.bd≠L.rd
 bu:L.bd≠L.ud
 bl:∀ a∈L.qa.map (·.2),L.bd≠a
 qw:L.qd≠L.wd
 qo:L.qd≠L.od
 qr:L.qd≠L.rd
 qu:L.qd≠L.ud
 ql:∀ a∈L.qa.map (·.2),L.qd≠a
 wo:L.wd≠L.od
 wr:L.wd≠L.rd
 wu:L.wd≠L.ud
 wl:∀ a∈L.qa.map (·.2),L.wd≠a
 or:L.od≠L.rd
 ou:L.od≠L.ud
 ol:∀ a∈L.qa.map (·.2),L.od≠a
 ru:L.rd≠L.ud
 rl:∀ a∈L.qa.map (·.2),L.rd≠a
 ul:∀ a∈L.qa.map (·.2),L.ud≠a
 ll:(L.qa.map (·.2)).Nodup
theorem Lay.ne (nd:L.all.Nodup):L.Ne:=by
 unfold Lay.all at nd;have cut:∀ {a:aa} {xs:List aa},(a :: xs).Nodup->(∀ b∈xs,a≠b)/\xs.Nodup:=fun {a xs} z=>by
  obtain ⟨z1,z2⟩:=cO.mp z;exact ⟨fun b hb e=>z1 (by rw [e]; exact hb),z2⟩
 obtain ⟨a1,nd⟩:=cut nd;obtain ⟨a2,nd⟩:=cut nd;obtain ⟨a3,nd⟩:=cut nd;obtain ⟨a4,nd⟩:=cut nd;obtain ⟨a5,nd⟩:=cut nd;obtain ⟨a6,nd⟩:=cut nd;obtain ⟨a7,nd⟩:=cut nd;obtain ⟨a8,nd⟩:=cut nd;have i1:∀ {b:aa} {xs:List aa},b∈b :: xs:=aD;have i2:∀ {a b:aa} {xs:List aa},b∈xs->b∈a :: xs:=fun z=>ah _ z;exact ⟨a1 _ i1,a1 _ (i2 i1),a1 _ (i2 (i2 i1)),a1 _ (i2 (i2 (i2 i1))),a1 _ (i2 (i2 (i2 (i2 i1)))),a1 _ (i2 (i2 (i2 (i2 (i2 i1))))),a1 _ (i2 (i2 (i2 (i2 (i2 (i2 i1)))))),fun a ha=>a1 _ (i2 (i2 (i2 (i2 (i2 (i2 (i2 ha))))))),a2 _ i1,a2 _ (i2 i1),a2 _ (i2 (i2 i1)),a2 _ (i2 (i2 (i2 i1))),a2 _ (i2 (i2 (i2 (i2 i1)))),a2 _ (i2 (i2 (i2 (i2 (i2 i1))))),fun a ha=>a2 _ (i2 (i2 (i2 (i2 (i2 (i2 ha)))))),a3 _ i1,a3 _ (i2 i1),a3 _ (i2 (i2 i1)),a3 _ (i2 (i2 (i2 i1))),a3 _ (i2 (i2 (i2 (i2 i1)))),fun a ha=>a3 _ (i2 (i2 (i2 (i2 (i2 ha))))),a4 _ i1,a4 _ (i2 i1),a4 _ (i2 (i2 i1)),a4 _ (i2 (i2 (i2 i1))),fun a ha=>a4 _ (i2 (i2 (i2 (i2 ha)))),a5 _ i1,a5 _ (i2 i1),a5 _ (i2 (i2 i1)),fun a ha=>a5 _ (i2 (i2 (i2 ha))),a6 _ i1,a6 _ (i2 i1),fun a ha=>a6 _ (i2 (i2 ha)),a7 _ i1,fun a ha=>a7 _ (i2 ha),fun a ha=>a8 _ ha,nd⟩
theorem lS {a:aa} {o:HO} (nt:∀ xs,G a≠some (.tup xs)) {vs:List V} {es:List Ev} (r:aI (gK G) vs es):aI (gK (upd G a o)) vs es:=
 Paired.mono (fun v e z=>by
  obtain ⟨t,k,e1,h1,h2⟩:=z;refine ⟨t,k,e1,?_,?_⟩
  ·rw [aK fun y=>nt _ (by rw [<- y]; exact h1)];exact h1
  ·rw [aK fun y=>nt _ (by rw [<- y]; exact h2)];exact h2) r
theorem Dg.sm_upd (g:Dg CD CS bs qs H0 G L h ds w) {a:aa} (ha:a∈L.all) (o:HO):bj H0 (upd G a o):=fun b u e=>by
 rw [aK (aG e (g.fr a ha))];exact g.sm _ _ e
theorem in_d:L.d∈L.all:=aD
theorem JK:L.st∈L.all:=ah _ aD
theorem JL:L.bd∈L.all:=ah _ (ah _ aD)
theorem in_qd:L.qd∈L.all:=ah _ (ah _ (ah _ aD))
theorem in_wd:L.wd∈L.all:=ah _ (ah _ (ah _ (ah _ aD)))
theorem JM:L.od∈L.all:=ah _ (ah _ (ah _ (ah _ (ah _ aD))))
theorem in_rd:L.rd∈L.all:=ah _ (ah _ (ah _ (ah _ (ah _ (ah _ aD)))))
theorem in_ud:L.ud∈L.all:=ah _ (ah _ (ah _ (ah _ (ah _ (ah _ (ah _ aD))))))
theorem in_l {a:aa} (h:a∈L.qa.map (·.2)):a∈L.all:=ah _ (ah _ (ah _ (ah _ (ah _ (ah _ (ah _ (ah _ h)))))))
theorem bz {o o':HO} {a b:aa} (e:G a=some o) (n:a≠b):upd G b o' a=some o:=by rw [aK n]; exact e
theorem lT {o:HO} {a:aa} (e:G a=some o) (n:∀ xs,o≠.tup xs):∀ xs,G a≠some (.tup xs):=fun xs z=>by
 rw [e] at z
 cases z;exact n xs rfl
theorem Dg.box (g:Dg CD CS bs qs H0 G L h ds w) {x:Str} {n:Int} (wn:Wo n):Dg CD CS bs qs H0 (upd G L.bd (.dK (boK (mV w.bx x n)))) L h ds {w with bx:=mV w.bx x n}:=by
 have N:=Lay.ne g.nd;obtain ⟨vs,o1,o2⟩:=g.ho;obtain ⟨rs,r1,r2⟩:=g.hr;refine ⟨g.sm_upd JL _,bz g.hd N.db,bz g.hst N.sb,ag,bz g.hq N.bq.symm,g.hl.keep (L:=L) (fun a u e m=>bz e (N.bl a m).symm) (fun _ hp=>hp),bz g.hw N.bw.symm,⟨vs,bz o1 N.bo.symm,lS (lT g.hb (fun _ z=>by cases z)) o2⟩,⟨rs,bz r1 N.br.symm,r2⟩,bz g.hu N.bu.symm,g.hh,g.hm,g.nd,g.fr,?_,g.wt,g.wa,g.wb⟩;obtain ⟨kb,kq,nb,nq,wb,wq,nw,sw,nu,su,wo,fw⟩:=g.ok;refine ⟨(wX _ _ _).trans kb,kq,nb,nq,fun p hp=>?_,wq,nw,sw,nu,su,wo,fw⟩
 rcases zf hp with z | z
 ·exact wb p z
 ·rw [z];exact wn
theorem Bu {xs:List Str} {x:Str} (h:xs.Nodup):(lL xs x).Nodup:=by
 unfold lL
 by_cases c:x∈xs
 ·rw [if_pos c];exact h
 ·rw [if_neg c];refine iI.mpr ⟨h,by simp,fun a ha b hb=>?_⟩;rw [aH.mp hb];exact fun z=>c (by rw [<- z]; exact ha)
theorem zg {xs:List Str} {x y:Str} (h:y∈lL xs x):y∈xs\/y=x:=by
 unfold lL at h
 by_cases c:x∈xs
 ·rw [if_pos c] at h;exact .inl h
 ·rw [if_neg c] at h
  rcases bU.mp h with z | z
  ·exact .inl z
  ·exact .inr (aH.mp z)
theorem Ft {xs:List Str}:∀ {ys:List Str},xs.Nodup->(∀ x∈xs,x∈ys)->xs.length<=ys.length:=by
 induction xs with
 | nil=>intro ys _ _; exact bH _
 | cons x xs ih =>
  intro ys nd s;obtain ⟨n1,n2⟩:=cO.mp nd;have hx:x∈ys:=s x aD;have:=ih (ys:=ys.erase x) n2 fun z hz=>(List.mem_erase_of_ne (fun e=>n1 (by rw [<- e]; exact hz))).mpr (s z (ah _ hz));rw [List.length_erase_of_mem hx] at this;have:=List.length_pos_of_mem hx;rw [aR];omega
theorem qq.few (k:qq bs qs w):w.wr.length < 100:=jA (Ft k.nw k.sw) k.fw
theorem qq.few2 (k:qq bs qs w):w.qn.length < 100:=jA (Ft k.nu k.su) k.fw
theorem Bv (xs:List Str):(wrK xs).length=xs.length:=ai _
theorem fq:1000 < au:=by decide
theorem Dg.wrote (g:Dg CD CS bs qs H0 G L h ds w) {x:Str} (hx:x∈bs++qs):Dg CD CS bs qs H0 (upd G L.wd (.dK (wrK (lL w.wr x)))) L h ds {w with wr:=lL w.wr x}:=by
 have N:=Lay.ne g.nd;obtain ⟨vs,o1,o2⟩:=g.ho;obtain ⟨rs,r1,r2⟩:=g.hr;refine ⟨g.sm_upd in_wd _,bz g.hd N.dw,bz g.hst N.sw,bz g.hb N.bw,bz g.hq N.qw,g.hl.keep (L:=L) (fun a u e m=>bz e (N.wl a m).symm) (fun _ hp=>hp),ag,⟨vs,bz o1 N.wo.symm,lS (lT g.hw (fun _ z=>by cases z)) o2⟩,⟨rs,bz r1 N.wr.symm,r2⟩,bz g.hu N.wu.symm,g.hh,g.hm,g.nd,g.fr,?_,g.wt,g.wa,g.wb⟩;obtain ⟨kb,kq,nb,nq,wb,wq,nw,sw,nu,su,wo,fw⟩:=g.ok;refine ⟨kb,kq,nb,nq,wb,wq,Bu nw,fun y hy=>?_,nu,su,wo,fw⟩
 rcases zg hy with z | z
 ·exact sw y z
 ·rw [z];exact hx
theorem gA.at_ {x:Str}:∀ {qa:List (Str×aa)} {qu:List (Str×List Int)},gA G qa qu->x∈qu.map (·.1)->∃ l,qa.lookup x=some l/\G l=some (.lst ((iZ qu x).map V.int))/\l∈qa.map (·.2)
 | _,_,.nil,m=>by cases m
 |(k,l) :: qa,(k',xs) :: qu,.cons a b,m=>by
  obtain ⟨e,ha⟩:=a;dsimp only at e ha;subst e
  by_cases c:x=k
  ·subst c;refine ⟨l,bO,?_,aD⟩;unfold iZ;rw [bO];exact ha
  ·have m':x∈qu.map (·.1):=by
    rcases ay.mp m with z | z
    ·exact absurd z c
    ·exact z
   obtain ⟨l',h1,h2,h3⟩:=gA.at_ b m';refine ⟨l',?_,?_,ah _ h3⟩
   ·rw [cD,beq_eq_false_iff_ne.mpr c];exact h1
   ·unfold iZ at h2 |-;rw [cD,beq_eq_false_iff_ne.mpr c];exact h2
theorem pG {α:Type} {x:Str} {a:α}:∀ {ps:List (Str×α)},ps.lookup x=some a->(x,a)∈ps
 | [],h=>by cases h
 |(k,b) :: ps,h=>by
  by_cases c:x=k
  ·subst c;rw [bO] at h
   cases h;exact aD
  ·rw [cD,beq_eq_false_iff_ne.mpr c] at h;exact ah _ (pG h)
theorem CZ {α:Type} {x:Str} {n:α} {ps:List (Str×α)} (h:x∉ps.map (·.1)):mV ps x n=ps:=by
 unfold mV;have:∀ p∈ps,(if p.1=x then (p.1,n) else p)=p:=fun p hp=>if_neg fun e=>h (cB.mpr ⟨p,hp,e⟩);rw [jc this];exact List.map_id _
theorem gA.set {x:Str} {l:aa} {ns:List Int}:∀ {qa:List (Str×aa)} {qu:List (Str×List Int)},gA G qa qu->(qa.map (·.2)).Nodup->(qu.map (·.1)).Nodup->qa.lookup x=some l->gA (upd G l (.lst (ns.map V.int))) qa (mV qu x ns)
 | _,_,.nil,_,_,e=>by cases e
 |(k,l0) :: qa,(k',xs) :: qu,.cons a b,nd,nk,e=>by
  obtain ⟨ek,ha⟩:=a;dsimp only at ek ha;subst ek;obtain ⟨n1,n2⟩:=cO.mp nd;obtain ⟨m1,m2⟩:=cO.mp nk
  by_cases c:x=k
  ·subst c;rw [bO] at e
   cases e;show gA _ _ ((if x=x then (x,ns) else (x,xs)) :: mV qu x ns);rw [if_pos rfl,CZ m1];refine .cons ⟨rfl,ag⟩ ?_;refine gA.keep (L:=⟨0,0,0,0,0,0,0,0,0,0,.non,.non,qa⟩) (G:=G) (fun a u e m=>bz e fun z=>n1 (by rw [<- z]; exact m)) (fun _ hp=>hp) b
  ·rw [cD,beq_eq_false_iff_ne.mpr c] at e;show gA _ _ ((if k=x then (k,ns) else (k,xs)) :: mV qu x ns);rw [if_neg fun z=>c z.symm];refine .cons ⟨rfl,bz ha fun z=>n1 ?_⟩ (gA.set b n2 m2 e);show l0∈qa.map (·.2);rw [show l0=l from z];exact cB.mpr ⟨_,pG e,rfl⟩
theorem Dg.queue (g:Dg CD CS bs qs H0 G L h ds w) {x:Str} {l:aa} {ns:List Int} (hl:L.qa.lookup x=some l) (len:ns.length<=30) (wn:∀ n∈ns,Wo n):Dg CD CS bs qs H0 (upd G l (.lst (ns.map V.int))) L h ds {w with qu:=mV w.qu x ns}:=by
 have N:=Lay.ne g.nd;have ml:l∈L.qa.map (·.2):=cB.mpr ⟨_,pG hl,rfl⟩;obtain ⟨vs,o1,o2⟩:=g.ho;obtain ⟨rs,r1,r2⟩:=g.hr;obtain ⟨kb,kq,nb,nq,wb,wq,nw,sw,nu,su,wo,fw⟩:=g.ok;have gl:∃ xs,G l=some (.lst xs):=by
  have key:∀ {qa:List (Str×aa)} {qu:List (Str×List Int)},gA G qa qu->l∈qa.map (·.2)->∃ xs,G l=some (.lst xs):=fun {qa qu} q=>by
   induction q with
   | nil=>intro m; cases m
   | cons a _ ih =>
    intro m
    rcases ay.mp m with z | z
    ·rw [z];exact ⟨_,a.2⟩
    ·exact ih z
  exact key g.hl ml
 obtain ⟨xs,gl⟩:=gl;refine ⟨g.sm_upd (in_l ml) _,bz g.hd (N.dl l ml),bz g.hst (N.sl l ml),bz g.hb (N.bl l ml),bz g.hq (N.ql l ml),g.hl.set N.ll (by rw [kq]; exact nq) hl,bz g.hw (N.wl l ml),⟨vs,bz o1 (N.ol l ml),lS (lT gl (fun _ z=>by cases z)) o2⟩,⟨rs,bz r1 (N.rl l ml),r2⟩,bz g.hu (N.ul l ml),g.hh,g.hm,g.nd,g.fr,?_,g.wt,g.wa,g.wb⟩;refine ⟨kb,(wX _ _ _).trans kq,nb,nq,wb,fun p hp=>?_,nw,sw,nu,su,wo,fw⟩
 rcases zf hp with z | z
 ·exact wq p z
 ·rw [z];exact ⟨len,wn⟩
theorem Dg.counts (g:Dg CD CS bs qs H0 G L h ds w) (dr:Nat) (se:Int):Dg CD CS bs qs H0 (upd G L.st (.ins CS L.dxs (nZ (.ref L.bd) (.ref L.qd) (.int dr) (.int se)))) L h ds {w with dr:=dr,se:=se}:=by
 have N:=Lay.ne g.nd;obtain ⟨vs,o1,o2⟩:=g.ho;obtain ⟨rs,r1,r2⟩:=g.hr;obtain ⟨kb,kq,nb,nq,wb,wq,nw,sw,nu,su,wo,fw⟩:=g.ok;exact ⟨g.sm_upd JK _,bz g.hd N.ds,ag,bz g.hb N.sb.symm,bz g.hq N.sq.symm,g.hl.keep (L:=L) (fun a u e m=>bz e (N.sl a m).symm) (fun _ hp=>hp),bz g.hw N.sw.symm,⟨vs,bz o1 N.so.symm,lS (lT g.hst (fun _ z=>by cases z)) o2⟩,⟨rs,bz r1 N.sr.symm,r2⟩,bz g.hu N.su.symm,g.hh,g.hm,g.nd,g.fr,⟨kb,kq,nb,nq,wb,wq,nw,sw,nu,su,wo,fw⟩,g.wt,g.wa,g.wb⟩
theorem Dg.sent (g:Dg CD CS bs qs H0 G L h ds w) {vs:List V} {v:V} {e:Ev} (hv:G L.od=some (.lst vs)) (he:gK G v e) (we:Wo e.a/\Wo e.b):Dg CD CS bs qs H0 (upd G L.od (.lst (vs++[v]))) L h ds {w with out:=w.out++[e]}:=by
 have N:=Lay.ne g.nd;obtain ⟨vs',o1,o2⟩:=g.ho;obtain ⟨rs,r1,r2⟩:=g.hr;rw [hv] at o1
 cases o1;obtain ⟨kb,kq,nb,nq,wb,wq,nw,sw,nu,su,wo,fw⟩:=g.ok;refine ⟨g.sm_upd JM _,bz g.hd N.do_,bz g.hst N.so,bz g.hb N.bo,bz g.hq N.qo,g.hl.keep (L:=L) (fun a u e m=>bz e (N.ol a m).symm) (fun _ hp=>hp),bz g.hw N.wo,⟨_,ag,?_⟩,⟨rs,bz r1 N.or.symm,r2⟩,bz g.hu N.ou.symm,g.hh,g.hm,g.nd,g.fr,⟨kb,kq,nb,nq,wb,wq,nw,sw,nu,su,fun x hx=>(bU.mp hx).elim (wo x) fun z=>by rw [aH.mp z]; exact we,fw⟩,g.wt,g.wa,g.wb⟩;exact lS (lT hv (fun _ z=>by cases z)) (eS o2 he)
theorem Dg.ended (g:Dg CD CS bs qs H0 G L h ds w):Dg CD CS bs qs H0 (upd G L.d (.ins CD L.dx (dF L.m L.hv L.st L.wd L.od true L.rd L.ud))) L h ds {w with en:=true}:=by
 have N:=Lay.ne g.nd;obtain ⟨vs,o1,o2⟩:=g.ho;obtain ⟨rs,r1,r2⟩:=g.hr;obtain ⟨kb,kq,nb,nq,wb,wq,nw,sw,nu,su,wo,fw⟩:=g.ok;exact ⟨g.sm_upd in_d _,ag,bz g.hst N.ds.symm,bz g.hb N.db.symm,bz g.hq N.dq.symm,g.hl.keep (L:=L) (fun a u e m=>bz e (N.dl a m).symm) (fun _ hp=>hp),bz g.hw N.dw.symm,⟨vs,bz o1 N.do_.symm,lS (lT g.hd (fun _ z=>by cases z)) o2⟩,⟨rs,bz r1 N.dr.symm,r2⟩,bz g.hu N.du.symm,g.hh,g.hm,g.nd,g.fr,⟨kb,kq,nb,nq,wb,wq,nw,sw,nu,su,wo,fw⟩,g.wt,g.wa,g.wb⟩
theorem Dg.reckoned (g:Dg CD CS bs qs H0 G L h ds w) {rs:List V} {v:V} {F:Fm} (hr:G L.rd=some (.lst rs)) (hF:FmI bs qs H0 v F):Dg CD CS bs qs H0 (upd G L.rd (.lst (rs++[v]))) L h ds {w with rk:=w.rk++[F]}:=by
 have N:=Lay.ne g.nd;obtain ⟨vs,o1,o2⟩:=g.ho;obtain ⟨rs',r1,r2⟩:=g.hr;rw [hr] at r1
 cases r1;obtain ⟨kb,kq,nb,nq,wb,wq,nw,sw,nu,su,wo,fw⟩:=g.ok;exact ⟨g.sm_upd in_rd _,bz g.hd N.dr,bz g.hst N.sr,bz g.hb N.br,bz g.hq N.qr,g.hl.keep (L:=L) (fun a u e m=>bz e (N.rl a m).symm) (fun _ hp=>hp),bz g.hw N.wr,⟨vs,bz o1 N.or,lS (lT hr (fun _ z=>by cases z)) o2⟩,⟨_,ag,eS r2 hF⟩,bz g.hu N.ru.symm,g.hh,g.hm,g.nd,g.fr,⟨kb,kq,nb,nq,wb,wq,nw,sw,nu,su,wo,fw⟩,g.wt,g.wa,g.wb⟩
theorem Dg.queued (g:Dg CD CS bs qs H0 G L h ds w) {x:Str} (hx:x∈bs++qs):Dg CD CS bs qs H0 (upd G L.ud (.dK (wrK (lL w.qn x)))) L h ds {w with qn:=lL w.qn x}:=by
 have N:=Lay.ne g.nd;obtain ⟨vs,o1,o2⟩:=g.ho;obtain ⟨rs,r1,r2⟩:=g.hr;obtain ⟨kb,kq,nb,nq,wb,wq,nw,sw,nu,su,wo,fw⟩:=g.ok;refine ⟨g.sm_upd in_ud _,bz g.hd N.du,bz g.hst N.su,bz g.hb N.bu,bz g.hq N.qu,g.hl.keep (L:=L) (fun a u e m=>bz e (N.ul a m).symm) (fun _ hp=>hp),bz g.hw N.wu,⟨vs,bz o1 N.ou,lS (lT g.hu (fun _ z=>by cases z)) o2⟩,⟨rs,bz r1 N.ru,r2⟩,ag,g.hh,g.hm,g.nd,g.fr,⟨kb,kq,nb,nq,wb,wq,nw,sw,Bu nu,fun y hy=>?_,wo,fw⟩,g.wt,g.wa,g.wb⟩
 rcases zg hy with z | z
 ·exact su y z
 ·rw [z];exact hx
theorem Fu {x:Str} {ps:List (Str×Int)} (m:x∈ps.map (·.1)):lI (boK ps) (Sum.inr x)=some (.int (vi ps x)):=by
 obtain ⟨a,h1,_⟩:=kJ m;have z:=rJ V.int x ps;rw [h1] at z;unfold vi;rw [h1];exact z
theorem Fv {x:Str} {l:aa} {qa:List (Str×aa)} (m:qa.lookup x=some l):lI (quK qa) (Sum.inr x)=some (.ref l):=by
 have z:=rJ V.ref x qa;rw [m] at z;exact z
theorem Io {x:Str} (k:qq bs qs w) (m:x∈bs):Wo (vi w.bx x):=by
 obtain ⟨a,h1,h2⟩:=kJ (ps:=w.bx) (x:=x) (by rw [k.kb]; exact m);unfold vi;rw [h1];exact k.wb _ h2
theorem xY {x:Str} (k:qq bs qs w) (m:x∈qs):(iZ w.qu x).length<=30/\∀ n∈iZ w.qu x,Wo n:=by
 obtain ⟨a,h1,h2⟩:=kJ (ps:=w.qu) (x:=x) (by rw [k.kq]; exact m);unfold iZ;rw [h1];exact k.wq _ h2
theorem Dg.asks (g:Dg CD CS bs qs H0 G L h ds w):(ze h w).Ok bs qs:=
 ⟨fun x m=>Io g.ok m,fun x m=>by
  have:=(xY g.ok m).1;show (iZ w.qu x).length<=1000;omega,g.wa,g.wb,g.wt⟩
theorem Dg.holds {K:ae} (g:Dg CD CS bs qs H0 G L h ds w) {gl:aa} (hg:G gl=some (.lst [.int h.a,.int h.b])):Holds K CS bs qs G L.st gl (ze h w):=
 ⟨⟨L.dxs,L.bd,L.qd,_,_,_,g.hst,Il _ _ _ _,Im _ _ _ _,g.hb,g.hq,fun x m=>Fu (by rw [g.ok.kb]; exact m),fun x m=>by
  obtain ⟨l,h1,h2,_⟩:=g.hl.at_ (x:=x) (by rw [g.ok.kq]; exact m);exact ⟨l,_,Fv h1,h2,ai _⟩⟩,hg⟩
end
end My
namespace L2
open PySem
theorem tS.own {X:Cx} {E:XK} (hb:tS X E):PassesOwn (bJ X.prog X.w) X.A X.env X.xe:=by
 rw [hb.xe];exact PassesOwn.leaving
end L2
namespace My
open PySem L2
structure Mt (K:ae) (C:aa) (x qual:Str) (st:dJ) (ps:List Str) (f:aa) (fd:cw):Prop where
 F:Fun K x qual st f fd
 b:Binds K fd ps []
 m:xx K C x f
structure Fw (K:ae) (mg:Str->Option af) (cf:Flt->aa):Prop where
 two:Fts K mg (cf .nought) (cf .great)
 mF:mg "Full"=some (.ref (cf .full))
 mD:mg "Dry"=some (.ref (cf .dry))
 mS:mg "Span"=some (.ref (cf .span))
 mL:mg "Late"=some (.ref (cf .late))
 xF:dO K (cf .full) qJ "ValueError.__new__"=true
 xD:dO K (cf .dry) qJ "ValueError.__new__"=true
 xS:dO K (cf .span) qJ "ValueError.__new__"=true
 xL:dO K (cf .late) qJ "ValueError.__new__"=true
def tf (cf:Flt->aa) (dg:Wk->Hp->Prop) (H0:Hp) (n:Nat) (r:Except Flt Wk) (Q:VK) (E:XK):Prop:=match r with
 | .ok w'=>∀ G',dg w' G'->w'.len<=n->Q .non G'
 | .error e=>∀ G',bj H0 G'->E (.ref (cf e)) none G'
theorem lu {cf:Flt->aa} {dg:Wk->Hp->Prop} {H0 G':Hp} {n:Nat} {h:Ev} {w:Wk} {f:Fm} {k:Wk->Int->Except Flt Wk} {Q0 Q:VK} {E:XK} (p:tf cf dg H0 n (rck h w f k) Q0 E) (s:bj H0 G')
  (hq:∀ r,ev (ze h w) f=.ok r->tf cf dg H0 n (k {w with rk:=w.rk++[f]} r) Q0 E->Q (.int r) G'):wW (cf .nought) (cf .great) (ev (ze h w) f) Q E G':=by
 unfold rck at p
 cases e:ev (ze h w) f with
 | ok r =>
  rw [e] at p;exact hq r e p
 | nought =>
  rw [e] at p;exact p G' s
 | great =>
  rw [e] at p;exact p G' s
theorem As {w:Wk} {F:Fm}:w.out.length + (w.rk++[F]).length<=w.len + 4:=by
 rw [ax];show _ + (_ + 1)<=w.out.length + w.rk.length + 4;omega
theorem Iq {w:Wk} {F F1 F2:Fm} {e:Ev}:(w.out++[e]).length + (w.rk++[F]++[F1]++[F2]).length<=w.len + 4:=by
 rw [ax,ax,ax,ax];show _ + 1 + (_ + 1 + 1 + 1)<=w.out.length + w.rk.length + 4;omega
theorem Ir {x:Str} {n:Int} {ps:List (Str×Int)} (m:x∈ps.map (·.1)):jI (boK ps) (Sum.inr x) (.int n)=boK (mV ps x n):=by
 obtain ⟨a,h1,_⟩:=kJ m;exact Ij V.int x n (by rw [h1]; rfl)
theorem Iu (ps:List (Str×Int)):(boK ps).length=ps.length:=ai _
section
variable {CD CS:aa} {bs qs:List Str} {H0 G G':Hp} {L:Lay} {h:Ev} {ds:List Int} {w:Wk}
theorem Dg.few (g:Dg CD CS bs qs H0 G L h ds w):(boK w.bx).length < au/\(wrK w.wr).length < au:=by
 have:=g.ok.few;have:=g.ok.fw;have:=fq;rw [Iu,Bv];have e:=congrArg gD g.ok.kb;rw [ai] at e;rw [ax] at *;omega
theorem Dg.putB (g:Dg CD CS bs qs H0 G L h ds w) {x:Str} {n:Int} (m:x∈bs):uf G L.bd (.str x) (.int n) (upd G L.bd (.dK (boK (mV w.bx x n)))):=by
 have z:=uf.k (k:=Sum.inr x) (v:=.int n) g.hb g.few.1;rw [Ir (by rw [g.ok.kb]; exact m)] at z;exact z
theorem Dg.putW (g:Dg CD CS bs qs H0 G L h ds w) (x:Str):uf G L.wd (.str x) (.bl true) (upd G L.wd (.dK (wrK (lL w.wr x)))):=by
 have z:=uf.k (k:=Sum.inr x) (v:=.bl true) g.hw g.few.2;rw [Bt] at z;exact z
theorem Dg.putU (g:Dg CD CS bs qs H0 G L h ds w) (x:Str):uf G L.ud (.str x) (.bl true) (upd G L.ud (.dK (wrK (lL w.qn x)))):=by
 have z:=uf.k (k:=Sum.inr x) (v:=.bl true) g.hu (by
  have:=g.ok.few2;have:=fq;rw [Bv];omega)
 rw [Bt] at z;exact z
theorem Dg.getL (g:Dg CD CS bs qs H0 G L h ds w) {x:Str} (m:x∈qs):∃ l,L.qa.lookup x=some l/\G l=some (.lst ((iZ w.qu x).map V.int))/\rm G L.qd (.str x) (some (.ref l)):=by
 obtain ⟨l,h1,h2,_⟩:=g.hl.at_ (x:=x) (by rw [g.ok.kq]; exact m);refine ⟨l,h1,h2,?_⟩;have z:=rm.k (k:=Sum.inr x) g.hq;rw [Fv h1] at z;exact z
end
section
variable {P:aL} {w:bN} {K:ae} {mg:Str->Option af} {base:cF} {f fN fR fF fW fT fD fL fQ CD CS CM:aa} {fd fdN fdR fdF fdW fdT fdD fdL fdQ:cw} {cf:Flt->aa} {bs qs:List Str}
inductive Fx (CD CS:aa) (bs qs:List Str) (vs:List V) (H:Hp) (Q:VK) (_e:XK):Prop where
 | mk (H0:Hp) (L:Lay) (h:Ev) (ds:List Int) (w:Wk) (_:vs=[.ref L.d]) (_:Dg CD CS bs qs H0 H L h ds w) (_:Q (.int h.t) H):Fx CD CS bs qs vs H Q _e
def Fy (CD CS:aa) (bs qs:List Str):Sp:=fun vs H Q _e=>Fx CD CS bs qs vs H Q _e
theorem scNw:cv ["self"] ["self"] (aQ ji):={}
theorem Fz (M:Mt K CD "now" "Doing.now" ji ["self"] f fd) (T:DT K mg CD):cm P w K mg base CX0 1 f fd ["self"] (Fy CD CS bs qs):=by
 refine M.F.ok scNw (fun vs H Q E h=>?_) (fun cdv A outer s H vs Q E hr h=>?_)
 ·obtain ⟨H0,L,e,ds,w,rfl,_⟩:=h;rfl
 obtain ⟨H0,L,e,ds,w,rfl,g,q⟩:=h;obtain ⟨t,k,ev,h1,h2⟩:=g.hh;refine ⟨_,aF (bQ (bT cL (bT cL (cW (pv 0) rfl) aw (fun _ _=>rfl)) aw (fun _ _=>rfl))),?_⟩;exact ⟨_,rfl,L.d,CD,L.dx,_,_,rfl,g.hd,T.cl,T.nH,Ik _ _ _ _ _ _ _ _,t,_,_,_,ev,rfl,SqT.of (g.sm _ _ h1),rfl,k,_,_,_,rfl,rfl,SqT.of (g.sm _ _ h2),rfl,q⟩
inductive Bw (cf:Flt->aa) (CD CS:aa) (bs qs:List Str) (vs:List V) (H:Hp) (Q:VK) (E:XK):Prop where
 | mk (H0:Hp) (L:Lay) (h:Ev) (ds:List Int) (w:Wk) (v:V) (F:Fm) (_:vs=[.ref L.d,v]) (_:Dg CD CS bs qs H0 H L h ds w) (_:FmI bs qs H0 v F) (_:w.len < 400000) (_:∀ G',Dg CD CS bs qs H0 G' L h ds {w with rk:=w.rk++[F]}->wW (cf .nought) (cf .great) (ev (ze h w) F) Q E G'):Bw cf CD CS bs qs vs H Q E
def tj (cf:Flt->aa) (CD CS:aa) (bs qs:List Str):Sp:=fun vs H Q E=>Bw cf CD CS bs qs vs H Q E
theorem scRk:cv ["self","formula"] ["self","formula"] (aQ eX):={}
theorem uJ (M:Mt K CD "reckon" "Doing.reckon" eX ["self","formula"] f fd) (MN:Mt K CD "now" "Doing.now" ji ["self"] fN fdN) (DW:Df K mg "worth_of" kZ ["formula","state","now","got"] fW fdW) (DT2:Df K mg "number_of_two" gO ["kind","first","second"] fT fdT) (DD:Df K mg "number_of_division" d9 ["kind","first","second"] fD fdD)
  (DL:Df K mg "number_of_leaf" gz ["formula","state","now","got"] fL fdL) (T:DT K mg CD) (TF:Fw K mg cf) (TM:MdT K mg CM CS) (B:Bl mg):cm P w K mg base (CXo P w) 18 f fd ["self","formula"] (tj cf CD CS bs qs):=by
 have GN:cm P w K mg base CX0 1 fN fdN ["self"] (Fy CD CS bs qs):=Fz MN T;have GW:cm P w K mg base (CXo P w) 17 fW fdW ["formula","state","now","got"] (Fn K CS (cf .nought) (cf .great) bs qs 15):=JJ DW DT2 DD DL TF.two TM B 15;refine M.F.okX scRk (fun vs H Q E h=>?_) (fun cdv A outer s H vs Q E hr h=>?_)
 ·obtain ⟨H0,L,e,ds,w,v,F,rfl,_⟩:=h;rfl
 obtain ⟨H0,L,e,ds,w,v,F,rfl,g,hF,fw,q⟩:=h;obtain ⟨t,k,eh,h1,h2⟩:=g.hh;have r1:d5 1 _:=hr.mono (by omega);obtain ⟨rs,r1',r2⟩:=g.hr;have g0:=g.reckoned r1' hF;refine ⟨_,ak (eK (kQ cy cJ cK gN (cW (pv 0) rfl) (av (pv 1) ao))) (aF (bQ (aO GW hr rfl DW.m DW.F.kp DW.b .nil (d6.passes fun _ _ _ z=>z) (av (pv 1) (av (cW (pv 0) rfl) (av (rg (pv 0) T.cl MN.m GN r1 MN.b .nil bY) (av (dh (av (bT cL (cW (pv 0) rfl) aw (fun _ _=>rfl)) (av (bT cL (cW (pv 0) rfl) aw (fun _ _=>rfl)) ao))) ao))))))),?_⟩;have rl:rs.length < au:=by
  have z:rs.length=w.rk.length:=aX r2;have:400000 < au:=by decide
  have:w.out.length + w.rk.length < 400000:=fw;omega
 refine ⟨_,rfl,L.d,CD,L.dx,_,_,rfl,g.hd,T.cl,T.nR,dF_r _ _ _ _ _ _ _ _,.inl ⟨rfl,_,SqL.of r1'⟩,_,rfl,L.rd,_,_,rfl,rfl,r1',rl,?_⟩;refine ⟨_,rfl,_,rfl,L.d,CD,L.dx,_,_,rfl,g0.hd,T.cl,T.nS,vW _ _ _ _ _ _ _ _,?_⟩;refine ⟨_,rfl,L.d,L.dx,_,rfl,g0.hd,oA _ _ _ _ _ _ _ _ (by decide +kernel),H0,L,e,ds,_,rfl,g0,?_⟩;refine ⟨_,rfl,L.d,CD,L.dx,_,_,rfl,g0.hd,T.cl,T.nH,Ik _ _ _ _ _ _ _ _,t,_,_,_,eh,rfl,SqT.of (g0.sm _ _ h1),rfl,?_⟩;refine ⟨_,rfl,L.d,CD,L.dx,_,_,rfl,g0.hd,T.cl,T.nH,Ik _ _ _ _ _ _ _ _,t,_,_,_,eh,rfl,SqT.of (g0.sm _ _ h1),rfl,?_⟩;refine ⟨lt2,fun l hl=>?_⟩;have s2:=aA hl (.lst [.int e.a,.int e.b]);have g2:=g0.same s2;exact ⟨v,F,L.st,l,ze e w,rfl,(hF.1.same g2.sm),hF.2,g2.holds ag,g2.asks,q _ g2⟩
inductive FA (CD CS:aa) (bs qs:List Str) (vs:List V) (H:Hp) (Q:VK) (_e:XK):Prop where
 | mk (H0:Hp) (L:Lay) (h:Ev) (ds:List Int) (w:Wk) (x:Str) (_:vs=[.ref L.d,.str x]) (_:Dg CD CS bs qs H0 H L h ds w) (_:x∈qs) (_:∀ G' l,Dg CD CS bs qs H0 G' L h ds {w with qn:=lL w.qn x}->L.qa.lookup x=some l->G' l=some (.lst ((iZ w.qu x).map V.int))->Q (.ref l) G'):FA CD CS bs qs vs H Q _e
def FB (CD CS:aa) (bs qs:List Str):Sp:=fun vs H Q _e=>FA CD CS bs qs vs H Q _e
theorem scQo:cv ["self","name"] ["self","name"] (aQ eQ):={}
theorem FC (M:Mt K CD "queue_of" "Doing.queue_of" eQ ["self","name"] f fd) (T:DT K mg CD) (TM:MdT K mg CM CS):cm P w K mg base CX0 1 f fd ["self","name"] (FB CD CS bs qs):=by
 refine M.F.ok scQo (fun vs H Q E h=>?_) (fun cdv A outer s H vs Q E hr h=>?_)
 ·obtain ⟨H0,L,e,ds,w,x,rfl,_⟩:=h;rfl
 obtain ⟨H0,L,e,ds,w,x,rfl,g,hx,q⟩:=h;have hu:=qx hr;refine ⟨_,ak (nI hu (cW (pv 0) rfl) (pv 1) ko rfl) (aF (bQ (rp hu (cW (cW (pv 0) rfl) rfl) (pv 1) (fun _ _=>rfl)))),?_⟩;have g1:=g.queued (x:=x) (bL _ hx);obtain ⟨l,hl,gl,dl⟩:=g1.getL hx;refine ⟨_,rfl,L.d,CD,L.dx,_,_,rfl,g.hd,T.cl,T.nQ,dF_u _ _ _ _ _ _ _ _,_,rfl,L.ud,_,rfl,g.putU x,?_⟩;exact ⟨_,rfl,L.d,CD,L.dx,_,_,rfl,g1.hd,T.cl,T.nS,vW _ _ _ _ _ _ _ _,L.st,CS,L.dxs,_,_,rfl,g1.hst,TM.clS,TM.nQ,Im _ _ _ _,_,rfl,L.qd,_,rfl,dl,q _ l g1 hl gl⟩
inductive Bx (CD CS:aa) (bs qs:List Str) (vs:List V) (H:Hp) (Q:VK) (_e:XK):Prop where
 | mk (H0:Hp) (L:Lay) (h:Ev) (ds:List Int) (w:Wk) (x:Str) (n:Int) (_:vs=[.ref L.d,.str x,.int n]) (_:Dg CD CS bs qs H0 H L h ds w) (_:x∈bs) (_:Wo n) (_:∀ G',Dg CD CS bs qs H0 G' L h ds (Fp w x n)->Q .non G'):Bx CD CS bs qs vs H Q _e
def xZ (CD CS:aa) (bs qs:List Str):Sp:=fun vs H Q _e=>Bx CD CS bs qs vs H Q _e
theorem scFl:cv ["self","box","worth"] ["self","box","worth"] (aQ gT):={}
theorem x5 (M:Mt K CD "fill" "Doing.fill" gT ["self","box","worth"] f fd) (T:DT K mg CD) (TM:MdT K mg CM CS):cm P w K mg base CX0 1 f fd ["self","box","worth"] (xZ CD CS bs qs):=by
 refine M.F.ok scFl (fun vs H Q E h=>?_) (fun cdv A outer s H vs Q E hr h=>?_)
 ·obtain ⟨H0,L,e,ds,w,x,n,rfl,_⟩:=h;rfl
 obtain ⟨H0,L,e,ds,w,x,n,rfl,g,hx,hn,q⟩:=h;have hu:=qx hr;refine ⟨_,ak (nI hu (cW (cW (pv 0) rfl) rfl) (pv 1) (pv 2) rfl) (aF (nI hu (cW (pv 0) rfl) (pv 1) ko rfl)),?_⟩;have g1:=g.box (x:=x) hn;have g2:=g1.wrote (x:=x) (gX _ hx);refine ⟨_,rfl,_,rfl,L.d,CD,L.dx,_,_,rfl,g.hd,T.cl,T.nS,vW _ _ _ _ _ _ _ _,L.st,CS,L.dxs,_,_,rfl,g.hst,TM.clS,TM.nB,Il _ _ _ _,_,rfl,L.bd,_,rfl,g.putB hx,?_⟩;exact ⟨_,rfl,L.d,CD,L.dx,_,_,rfl,g1.hd,T.cl,T.nW,Fq _ _ _ _ _ _ _ _,_,rfl,L.wd,_,rfl,g1.putW x,q _ g2⟩
inductive By (cf:Flt->aa) (CD CS:aa) (bs qs:List Str) (vs:List V) (H:Hp) (Q:VK) (E:XK):Prop where
 | mk (H0:Hp) (L:Lay) (h:Ev) (ds:List Int) (w:Wk) (x:Str) (v:V) (F:Fm) (_:vs=[.ref L.d,.str x,v]) (_:Dg CD CS bs qs H0 H L h ds w) (_:x∈qs) (_:FmI bs qs H0 v F) (_:w.len < 400000) (_:tf cf (fun w' G'=>Dg CD CS bs qs H0 G' L h ds w') H0 (w.len + 4) (doD h ds (.push x F) w) Q E):By cf CD CS bs qs vs H Q E
def Au (cf:Flt->aa) (CD CS:aa) (bs qs:List Str):Sp:=fun vs H Q E=>By cf CD CS bs qs vs H Q E
theorem Lp:cv ["doing","name","formula","worth","queue"] ["doing","name","formula"] (aQ mK):={}
theorem Iv (D:Df K mg "do_push" mK ["doing","name","formula"] f fd) (MR:Mt K CD "reckon" "Doing.reckon" eX ["self","formula"] fR fdR) (GR:cm P w K mg base (CXo P w) 18 fR fdR ["self","formula"] (tj cf CD CS bs qs)) (MQ:Mt K CD "queue_of" "Doing.queue_of" eQ ["self","name"] fQ fdQ) (T:DT K mg CD) (TF:Fw K mg cf) (TM:MdT K mg CM CS) (B:Bl mg) :
  cm P w K mg base (CXo P w) 19 f fd ["doing","name","formula"] (Au cf CD CS bs qs):=by
 have GQ:cm P w K mg base CX0 1 fQ fdQ ["self","name"] (FB CD CS bs qs):=FC MQ T TM;refine D.F.okX Lp (fun vs H Q E h=>?_) (fun cdv A outer s H vs Q E hr h=>?_)
 ·obtain ⟨H0,L,e,ds,w,x,v,F,rfl,_⟩:=h;rfl
 obtain ⟨H0,L,e,ds,w,x,v,F,rfl,g,hx,hF,fw,p⟩:=h;have hu:=qx hr;have r1:d5 1 _:=hr.mono (by omega);refine ⟨_,ak (aZ (i:=3) Lp.nd rfl (Or.inl rfl) (iq (pv 0) T.cl MR.m GR hr MR.b .nil (d6.passes fun _ _ _ z=>z) (av (pv 2) ao)))
  (ak (aZ (i:=4) Lp.nd rfl (Or.inl rfl) (iq (pv 0) T.cl MQ.m GQ r1 MQ.b .nil bY (av (pv 1) ao)))
  (ak (cS (bM op_ge (dB iN (by rfl) B.len cG (av (pv 4) ao)) aw (cj _)) (aF (kU d6 rfl rfl TF.mF TF.xF (av cA ao))) cq)
  (ak (eK (kQ cy cJ cK gN (pv 4) (av (pv 3) ao)))
  (aF (nI hu (cW (pv 0) rfl) (pv 1) ko rfl))))),?_⟩
 simp only [doD] at p;refine ⟨_,rfl,L.d,L.dx,_,rfl,g.hd,oA _ _ _ _ _ _ _ _ (by decide +kernel),_,rfl,H0,L,e,ds,w,v,F,rfl,g,hF,fw,fun G0 g0=>?_⟩;refine lu p g0.sm fun n en p=>?_;dsimp only at p;refine ⟨_,rfl,L.d,L.dx,_,rfl,g0.hd,oA _ _ _ _ _ _ _ _ (by decide +kernel),_,rfl,H0,L,e,ds,_,x,rfl,g0,hx,fun G1 l g1 hl gl=>?_⟩;refine ⟨_,rfl,l,_,rfl,.inl (SqL.of gl),_,_,rfl,rfl,_,rfl,gS (fun c=>?_) (fun c=>?_)⟩
 ·have c:(30:Int)<=((((iZ w.qu x).map V.int).length:Nat):Int):=kd c;rw [ai] at c;rw [if_pos (by omega)] at p;exact ⟨(by show 1<=au; decide),p _ g1.sm⟩
 ·have c:¬ (30:Int)<=((((iZ w.qu x).map V.int).length:Nat):Int):=kA c;rw [ai] at c;rw [if_neg (by omega)] at p;have wn:Wo n:=tY g1.asks (hF.1.same g1.sm) en;have gq:=xY g1.ok hx;have g2:=g1.queue (x:=x) (l:=l) (ns:=iZ w.qu x++[n]) hl (by rw [ax]; simp only [aR,cU]; omega) (fun m hm=>by
   rcases bU.mp hm with z | z
   ·exact gq.2 m z
   ·rw [aH.mp z];exact wn)
  have g3:=g2.wrote (x:=x) (bL _ hx);have lt:((iZ w.qu x).map V.int).length < au:=by
   rw [ai];have:=fq;omega
  refine ⟨_,rfl,.inl ⟨rfl,_,SqL.of gl⟩,_,rfl,l,_,_,rfl,rfl,gl,lt,?_⟩;have eq:(iZ w.qu x).map V.int++[V.int n]=(iZ w.qu x++[n]).map V.int:=by rw [bV]; rfl
  rw [eq];exact ⟨_,rfl,L.d,CD,L.dx,_,_,rfl,g2.hd,T.cl,T.nW,Fq _ _ _ _ _ _ _ _,_,rfl,L.wd,_,rfl,g2.putW x,p _ g3 (As (w:=w) (F:=F))⟩
end
theorem FD (ds:List Int) (i:Nat) (h:i < ds.length):(ds.map V.int)[i]?=some (.int (ds.getD i 0)):=by
 rw [bS,aj h,dP,aj h];rfl
section
variable {P:aL} {w:bN} {K:ae} {mg:Str->Option af} {base:cF} {f fN fR fF CD CS CM:aa} {fd fdN fdR fdF:cw} {cf:Flt->aa} {bs qs:List Str}
inductive zh (cf:Flt->aa) (CD CS:aa) (bs qs:List Str) (vs:List V) (H:Hp) (Q:VK) (E:XK):Prop where
 | mk (H0:Hp) (L:Lay) (h:Ev) (ds:List Int) (w:Wk) (x:Str) (v:V) (F:Fm) (_:vs=[.ref L.d,.str x,v]) (_:Dg CD CS bs qs H0 H L h ds w) (_:x∈bs) (_:FmI bs qs H0 v F) (_:w.len < 400000) (_:tf cf (fun w' G'=>Dg CD CS bs qs H0 G' L h ds w') H0 (w.len + 4) (doD h ds (.draw x F) w) Q E):zh cf CD CS bs qs vs H Q E
def x6 (cf:Flt->aa) (CD CS:aa) (bs qs:List Str):Sp:=fun vs H Q E=>zh cf CD CS bs qs vs H Q E
theorem Iw:cv ["doing","box","formula","divisor","draws","draw"] ["doing","box","formula"] (aQ mP):={}
theorem FE (D:Df K mg "do_draw" mP ["doing","box","formula"] f fd) (MR:Mt K CD "reckon" "Doing.reckon" eX ["self","formula"] fR fdR) (GR:cm P w K mg base (CXo P w) 18 fR fdR ["self","formula"] (tj cf CD CS bs qs)) (MF:Mt K CD "fill" "Doing.fill" gT ["self","box","worth"] fF fdF) (T:DT K mg CD) (TF:Fw K mg cf) (TM:MdT K mg CM CS) (B:Bl mg) :
  cm P w K mg base (CXo P w) 19 f fd ["doing","box","formula"] (x6 cf CD CS bs qs):=by
 have GF:cm P w K mg base CX0 1 fF fdF ["self","box","worth"] (xZ CD CS bs qs):=x5 MF T TM;refine D.F.okX Iw (fun vs H Q E h=>?_) (fun cdv A outer s H vs Q E hr h=>?_)
 ·obtain ⟨H0,L,e,ds,w,x,v,F,rfl,_⟩:=h;rfl
 obtain ⟨H0,L,e,ds,w,x,v,F,rfl,g,hx,hF,fw,p⟩:=h;have r1:d5 1 _:=hr.mono (by omega);refine ⟨_,ak (aZ (i:=3) Iw.nd rfl (Or.inl rfl) (iq (pv 0) T.cl MR.m GR hr MR.b .nil (d6.passes fun _ _ _ z=>z) (av (pv 2) ao)))
  (ak (cS (bM uP (pv 3) aw (cj _)) (aF (kU d6 rfl rfl TF.two.mN TF.two.xN (av cA ao))) cq)
  (ak (aZ (i:=4) Iw.nd rfl (Or.inl rfl) (bT cL (cW (pv 0) rfl) aw (fun _ _=>rfl)))
  (ak (cS (DY (uR (pv 4) (fun _=>rfl))) (aF (kU d6 rfl rfl TF.mD TF.xD (av cA ao))) cq)
  (ak (aZ (i:=5) Iw.nd rfl (Or.inl rfl) (bT cV (pv 4) (cC lX (cW (cW (pv 0) rfl) rfl) (dB iN (by rfl) B.len cG (av (pv 4) ao))) (fun _ _=>rfl)))
  (ak (wy (cW (pv 0) rfl) aw El)
  (aF (eK (iq (pv 0) T.cl MF.m GF r1 MF.b .nil bY (av (pv 1) (av (cC lX (pv 5) (pv 3)) ao)))))))))),?_⟩
 simp only [doD] at p;refine ⟨_,rfl,L.d,L.dx,_,rfl,g.hd,oA _ _ _ _ _ _ _ _ (by decide +kernel),_,rfl,H0,L,e,ds,w,v,F,rfl,g,hF,fw,fun G1 g1=>?_⟩;refine lu p g1.sm fun n en p=>?_;refine ⟨_,rfl,_,_,rfl,rfl,_,rfl,gS (fun c=>?_) (fun c=>?_)⟩
 ·rw [if_pos (kd c)] at p;exact ⟨(by show 1<=au; decide),p _ g1.sm⟩
 have c:¬ n < 1:=kA c;rw [if_neg c] at p;obtain ⟨t,x1,x2,x3,x4,dl,em,hm,hdl⟩:=g1.hm;refine ⟨_,rfl,L.d,CD,L.dx,_,_,rfl,g1.hd,T.cl,T.nM,Lh _ _ _ _ _ _ _ _,t,_,_,_,em,rfl,SqT.of (g1.sm _ _ hm),rfl,?_⟩;have hdl1:=g1.sm _ _ hdl;refine ⟨_,rfl,_,.inl ⟨_,SqL.of hdl1,rfl⟩,?_⟩
 cases hds:ds with
 | nil =>
  rw [hds] at p;refine iF ?_;exact ⟨(by show 1<=au; decide),p _ g1.sm⟩
 | cons d0 dr =>
  rw [<- hds];have ne:¬ ds=[]:=by rw [hds]; intro z; cases z
  have pos:0 < ds.length:=by rw [hds]; exact fJ _
  rw [if_neg ne] at p;have nb:(!(!(ds.map V.int).isEmpty))=false:=by rw [hds]; rfl
  rw [nb];refine gi ?_;have lt:w.dr % ds.length < ds.length:=Nat.mod_lt _ pos;have ix:atI (ds.map V.int) ((w.dr:Int) % (((ds.map V.int).length:Nat):Int))=some (.int (ds.getD (w.dr % ds.length) 0)):=by
   rw [ai,<- Int.natCast_emod];exact gR (FD ds _ lt)
  refine ⟨_,rfl,_,rfl,L.d,CD,L.dx,_,_,rfl,g1.hd,T.cl,T.nS,vW _ _ _ _ _ _ _ _,L.st,CS,L.dxs,_,_,rfl,g1.hst,TM.clS,TM.nD,Lm _ _ _ _,_,rfl,dl,_,rfl,.inl (SqL.of hdl1),_,_,rfl,rfl,(by rw [ai]; omega),dl,_,_,_,rfl,rfl,SqL.of hdl1,ix,?_⟩;refine ⟨_,rfl,L.d,CD,L.dx,_,_,rfl,g1.hd,T.cl,T.nS,vW _ _ _ _ _ _ _ _,L.st,CS,L.dxs,_,_,rfl,g1.hst,TM.clS,TM.nD,Lm _ _ _ _,_,_,rfl,rfl,L.dxs,_,g1.hst,Fs _ _ _ _,?_⟩;rw [Lk];have g2:=g1.counts (w.dr + 1) w.se;have wn:Wo n:=tY g1.asks (hF.1.same g1.sm) en;have wm:Wo (ds.getD (w.dr % ds.length) 0 % n):=by
   have a1:=gv (ds.getD (w.dr % ds.length) 0) (show n≠0 by omega);have a2:=fu (ds.getD (w.dr % ds.length) 0) (show 0 < n by omega);unfold Wo at wn |-;omega
  exact ⟨_,rfl,L.d,L.dx,_,rfl,g2.hd,oA _ _ _ _ _ _ _ _ (by decide +kernel),_,rfl,_,rfl,_,rfl,_,_,rfl,rfl,(by omega),H0,L,e,ds,_,x,_,rfl,g2,hx,wm,fun G' g3=>p G' g3 (As (w:=w) (F:=F))⟩
inductive Bz (cf:Flt->aa) (CD CS:aa) (bs qs:List Str) (vs:List V) (H:Hp) (Q:VK) (E:XK):Prop where
 | mk (H0:Hp) (L:Lay) (h:Ev) (ds:List Int) (w:Wk) (t:aa) (u u1 u2:V) (to:Int) (sg:Str) (rk:Int) (F F1 F2:Fm) (_:vs=[.ref L.d,.ref t]) (_:Dg CD CS bs qs H0 H L h ds w) (_:H0 t=some (.tup [.str "send",.int to,.str sg,u,.int rk,u1,u2])) (_:FmI bs qs H0 u F) (_:FmI bs qs H0 u1 F1) (_:FmI bs qs H0 u2 F2) (_:w.len + 4 < 400000) (_:tf cf (fun w' G'=>Dg CD CS bs qs H0 G' L h ds w') H0 (w.len + 4) (doD h ds (.send to sg F rk F1 F2) w) Q E):Bz cf CD CS bs qs vs H Q E
def Av (cf:Flt->aa) (CD CS:aa) (bs qs:List Str):Sp:=fun vs H Q E=>Bz cf CD CS bs qs vs H Q E
theorem C0:cv ["doing","deed","span","first","second","when","key"] ["doing","deed"] (aQ mQ):={}
theorem Iy (D:Df K mg "do_send" mQ ["doing","deed"] f fd) (MR:Mt K CD "reckon" "Doing.reckon" eX ["self","formula"] fR fdR) (GR:cm P w K mg base (CXo P w) 18 fR fdR ["self","formula"] (tj cf CD CS bs qs)) (MN:Mt K CD "now" "Doing.now" ji ["self"] fN fdN) (T:DT K mg CD) (TF:Fw K mg cf) (TM:MdT K mg CM CS) (B:Bl mg) :
  cm P w K mg base (CXo P w) 19 f fd ["doing","deed"] (Av cf CD CS bs qs):=by
 have GN:cm P w K mg base CX0 1 fN fdN ["self"] (Fy CD CS bs qs):=Fz MN T;refine D.F.okX C0 (fun vs H Q E h=>?_) (fun cdv A outer s H vs Q E hr h=>?_)
 ·obtain ⟨H0,L,e,ds,w,t,u,u1,u2,to,sg,rk,F,F1,F2,rfl,_⟩:=h;rfl
 obtain ⟨H0,L,e,ds,w,t,u,u1,u2,to,sg,rk,F,F1,F2,rfl,g,ht,hF,hF1,hF2,lo,p⟩:=h;have r1:d5 1 _:=hr.mono (by omega);refine ⟨_,ak (aZ (i:=2) C0.nd rfl (Or.inl rfl) (iq (pv 0) T.cl MR.m GR hr MR.b .nil (d6.passes fun _ _ _ z=>z) (av (bT cL (pv 1) aw (fun _ _=>rfl)) ao)))
  (ak (cS (DX (bM uP (pv 2) aw (cj _)) (zH (bM wj (pv 2) (cC xw aw aw) (cj _)))).pt (aF (kU d6 rfl rfl TF.mS TF.xS (av cA ao))) cq)
  (ak (aZ (i:=3) C0.nd rfl (Or.inl rfl) (iq (pv 0) T.cl MR.m GR hr MR.b .nil (d6.passes fun _ _ _ z=>z) (av (bT cL (pv 1) aw (fun _ _=>rfl)) ao)))
  (ak (aZ (i:=4) C0.nd rfl (Or.inl rfl) (iq (pv 0) T.cl MR.m GR hr MR.b .nil (d6.passes fun _ _ _ z=>z) (av (bT cL (pv 1) aw (fun _ _=>rfl)) ao)))
  (ak (aZ (i:=5) C0.nd rfl (Or.inl rfl) (cC ff (rg (pv 0) T.cl MN.m GN r1 MN.b .nil bY) (pv 2)))
  (ak (cS (bM wj (pv 5) (cC xw aw aw) (cj _)) (aF (kU d6 rfl rfl TF.mL TF.xL (av cA ao))) cq)
  (ak (aZ (i:=6) C0.nd rfl (Or.inl rfl) (cR (av (pv 5) (av (bT cL (pv 1) aw (fun _ _=>rfl)) (av (bT cL (cW (pv 0) rfl) aw (fun _ _=>rfl)) (av (cW (cW (pv 0) rfl) rfl) ao))))))
  (ak (wy (cW (pv 0) rfl) aw El)
  (aF (eK (kQ cy cJ cK gN (cW (pv 0) rfl) (av (cR (av (pv 6) (av (bT cL (pv 1) aw (fun _ _=>rfl)) (av (bT cL (pv 1) aw (fun _ _=>rfl)) (av (pv 3) (av (pv 4) ao)))))) ao))))))))))),?_⟩
 simp only [doD] at p;have f0:w.len < 400000:=by omega
 have f1:Wk.len {w with rk:=w.rk++[F]} < 400000:=by
  show w.out.length + (w.rk++[F]).length < 400000;rw [ax];have:w.out.length + w.rk.length + 4 < 400000:=lo;show _ + (_ + 1) < _;omega
 have f2:Wk.len {w with rk:=w.rk++[F]++[F1]} < 400000:=by
  show w.out.length + (w.rk++[F]++[F1]).length < 400000;rw [ax,ax];have:w.out.length + w.rk.length + 4 < 400000:=lo;show _ + (_ + 1 + 1) < _;omega
 have l1:1<=au:=by decide
 have c6:Ef 10 6:=⟨by decide,by decide,by decide⟩;have c12:Ef 10 12:=⟨by decide,by decide,by decide⟩;have tt:∀ {G:Hp},bj H0 G->SqT K G t [.str "send",.int to,.str sg,u,.int rk,u1,u2]:=fun {G} z=>SqT.of (z _ _ ht);refine ⟨_,rfl,L.d,L.dx,_,rfl,g.hd,oA _ _ _ _ _ _ _ _ (by decide +kernel),_,rfl,t,_,_,_,rfl,rfl,tt g.sm,rfl,H0,L,e,ds,w,u,F,rfl,g,hF,f0,fun G1 g1=>?_⟩;refine lu p g1.sm fun n en p=>?_;refine ⟨_,rfl,_,_,rfl,rfl,_,rfl,gS (fun c=>?_) (fun c=>?_)⟩
 ·rw [if_pos (.inl (kd c))] at p;exact iF ⟨l1,p _ g1.sm⟩
 have c:¬ n < 1:=kA c;refine ⟨_,rfl,_,_,rfl,rfl,c6,_,_,rfl,rfl,_,rfl,gS (fun c2=>?_) (fun c2=>?_)⟩
 ·rw [if_pos (.inr (kd c2))] at p;exact ⟨l1,p _ g1.sm⟩
 have c2:¬ 10 ^ 6 < n:=kA c2;rw [if_neg (fun z=>z.elim c c2)] at p;refine ⟨_,rfl,L.d,L.dx,_,rfl,g1.hd,oA _ _ _ _ _ _ _ _ (by decide +kernel),_,rfl,t,_,_,_,rfl,rfl,tt g1.sm,rfl,H0,L,e,ds,_,u1,F1,rfl,g1,hF1,f1,fun G2 g2=>?_⟩;refine lu p g2.sm fun n1 en1 p=>?_;refine ⟨_,rfl,L.d,L.dx,_,rfl,g2.hd,oA _ _ _ _ _ _ _ _ (by decide +kernel),_,rfl,t,_,_,_,rfl,rfl,tt g2.sm,rfl,H0,L,e,ds,_,u2,F2,rfl,g2,hF2,f2,fun G3 g3=>?_⟩;refine lu p g3.sm fun n2 en2 p=>?_;refine ⟨_,rfl,L.d,L.dx,_,rfl,g3.hd,oA _ _ _ _ _ _ _ _ (by decide +kernel),H0,L,e,ds,_,rfl,g3,_,rfl,_,_,rfl,rfl,?_⟩;refine ⟨_,rfl,_,_,rfl,rfl,c12,_,_,rfl,rfl,_,rfl,gS (fun c3=>?_) (fun c3=>?_)⟩
 ·rw [if_pos (show 10 ^ 12 < e.t + n from kd c3)] at p;exact ⟨l1,p _ g3.sm⟩
 rw [if_neg (show ¬ 10 ^ 12 < e.t + n from kA c3)] at p;obtain ⟨th,kh,eh,h1,h2⟩:=g3.hh;refine ⟨_,rfl,_,rfl,t,_,_,_,rfl,rfl,tt g3.sm,rfl,_,rfl,L.d,CD,L.dx,_,_,rfl,g3.hd,T.cl,T.nH,Ik _ _ _ _ _ _ _ _,th,_,_,_,eh,rfl,SqT.of (g3.sm _ _ h1),rfl,_,rfl,L.d,CD,L.dx,_,_,rfl,g3.hd,T.cl,T.nS,vW _ _ _ _ _ _ _ _,L.st,CS,L.dxs,_,_,rfl,g3.hst,TM.clS,TM.nS,Ln _ _ _ _,(by show 4<=au; decide),fun ky hk=>?_⟩;have s4:=aA hk (.tup [.int (e.t + n),.int rk,.int e.to,.int w.se]);have g4:=g3.same s4;refine ⟨_,rfl,L.d,CD,L.dx,_,_,rfl,g4.hd,T.cl,T.nS,vW _ _ _ _ _ _ _ _,L.st,CS,L.dxs,_,_,rfl,g4.hst,TM.clS,TM.nS,Ln _ _ _ _,_,_,rfl,rfl,L.dxs,_,g4.hst,Fs _ _ _ _,?_⟩;rw [Ll];have g5:=g4.counts w.dr (w.se + 1);have hky:∀ {G:Hp} {o o':HO},G ky=some (.tup [.int (e.t + n),.int rk,.int e.to,.int w.se])->G L.st=some o'->(∀ xs,o'≠.tup xs)->upd G L.st o ky=some (.tup [.int (e.t + n),.int rk,.int e.to,.int w.se]):=fun h1 h2 h3=>bz h1 (mr h1 h2 (fun z=>h3 _ z.symm));have k5:=hky (o:=.ins CS L.dxs (nZ (.ref L.bd) (.ref L.qd) (.int w.dr) (.int (w.se + 1)))) (ag:upd G3 ky _ ky=_) g4.hst (fun xs z=>by cases z);obtain ⟨vs,o1,o2⟩:=g5.ho;refine ⟨_,rfl,L.d,CD,L.dx,_,_,rfl,g5.hd,T.cl,T.nO,dF_o _ _ _ _ _ _ _ _,.inl ⟨rfl,_,SqL.of o1⟩,?_⟩;refine ⟨_,rfl,_,rfl,t,_,_,_,rfl,rfl,tt g5.sm,rfl,_,rfl,t,_,_,_,rfl,rfl,tt g5.sm,rfl,_,rfl,_,rfl,lt5,fun ev hev=>?_⟩;have s6:=aA hev (.tup [.ref ky,.int to,.str sg,.int n1,.int n2]);have g6:=g5.same s6;have ol:vs.length < au:=by
  have:=aX o2;have z:vs.length=w.out.length:=this;have:400000 < au:=by decide
  have:w.out.length + w.rk.length + 4 < 400000:=lo;omega
 refine ⟨L.od,vs,_,rfl,rfl,s6 _ _ o1,ol,?_⟩;have g7:=g6.sent (v:=.ref ev) (e:=⟨e.t + n,rk,e.to,w.se,to,sg,n1,n2⟩) (s6 _ _ o1) ⟨ev,ky,rfl,ag,s6 _ _ k5⟩ ⟨tY g1.asks (hF1.1.same g1.sm) en1,tY g2.asks (hF2.1.same g2.sm) en2⟩;exact p _ g7 (Iq (w:=w) (F:=F) (F1:=F1) (F2:=F2))
end
mutual
def Dd.size:Dd->Nat
 | .pull _ _ o=>o.size + 1
 | .ife _ t e=>t.size + e.size + 1
 | _=>1
def Ds.size:Ds->Nat
 | .nil=>0
 | .cons d r=>d.size + r.size
end
theorem tf.le {cf:Flt->aa} {dg:Wk->Hp->Prop} {H0:Hp} {m n:Nat} {r:Except Flt Wk} {Q:VK} {E:XK} (p:tf cf dg H0 n r Q E) (h:m<=n):tf cf dg H0 m r Q E:=by
 cases r with
 | ok w=>exact fun G g l=>p G g (dH l h)
 | error e=>exact p
section
variable {P:aL} {w:bN} {K:ae} {mg:Str->Option af} {base:cF} {f fR fF fP fD fU fW fS f1 fQ CD CS CM:aa} {fd fdR fdF fdP fdD fdU fdW fdS fd1 fdQ:cw} {cf:Flt->aa} {bs qs:List Str}
inductive FF (cf:Flt->aa) (CD CS:aa) (bs qs:List Str) (n:Nat) (vs:List V) (H:Hp) (Q:VK) (E:XK):Prop where
 | mk (H0:Hp) (L:Lay) (h:Ev) (ds:List Int) (w:Wk) (v:V) (D:Ds) (_:vs=[.ref L.d,v]) (_:Dg CD CS bs qs H0 H L h ds w) (_:lR H0 (eZ bs qs H0 D) v) (_:D.deep < n) (_:w.len + 4 * D.size < 400000) (_:tf cf (fun w' G'=>Dg CD CS bs qs H0 G' L h ds w') H0 (w.len + 4 * D.size) (doS h ds D w) Q E):FF cf CD CS bs qs n vs H Q E
def vj (cf:Flt->aa) (CD CS:aa) (bs qs:List Str) (n:Nat):Sp:=fun vs H Q E=>FF cf CD CS bs qs n vs H Q E
inductive JN (cf:Flt->aa) (CD CS:aa) (bs qs:List Str) (n:Nat) (vs:List V) (H:Hp) (Q:VK) (E:XK):Prop where
 | mk (H0:Hp) (L:Lay) (h:Ev) (ds:List Int) (w:Wk) (v:V) (D:Dd) (_:vs=[.ref L.d,v]) (_:Dg CD CS bs qs H0 H L h ds w) (_:eB bs qs H0 D v) (_:D.deep < n) (_:w.len + 4 * D.size < 400000) (_:tf cf (fun w' G'=>Dg CD CS bs qs H0 G' L h ds w') H0 (w.len + 4 * D.size) (doD h ds D w) Q E):JN cf CD CS bs qs n vs H Q E
def spDd (cf:Flt->aa) (CD CS:aa) (bs qs:List Str) (n:Nat):Sp:=fun vs H Q E=>JN cf CD CS bs qs n vs H Q E
inductive BB (cf:Flt->aa) (CD CS:aa) (bs qs:List Str) (n:Nat) (vs:List V) (H:Hp) (Q:VK) (E:XK):Prop where
 | mk (H0:Hp) (L:Lay) (h:Ev) (ds:List Int) (w:Wk) (q x:Str) (v:V) (D:Ds) (_:vs=[.ref L.d,.str q,.str x,v]) (_:Dg CD CS bs qs H0 H L h ds w) (_:q∈qs) (_:x∈bs) (_:lR H0 (eZ bs qs H0 D) v) (_:D.deep < n) (_:w.len + 4 * D.size < 400000) (_:tf cf (fun w' G'=>Dg CD CS bs qs H0 G' L h ds w') H0 (w.len + 4 * D.size) (doD h ds (.pull q x D) w) Q E):BB cf CD CS bs qs n vs H Q E
def FG (cf:Flt->aa) (CD CS:aa) (bs qs:List Str) (n:Nat):Sp:=fun vs H Q E=>BB cf CD CS bs qs n vs H Q E
theorem scPl:cv ["doing","name","box","otherwise","queue"] ["doing","name","box","otherwise"] (aQ mO):={}
theorem Iz {n k:Nat} (hk:1<=k) (D:Df K mg "do_pull" mO ["doing","name","box","otherwise"] f fd) (DD:Df K mg "do_deeds" iH ["doing","deeds"] fD fdD) (GD:cm P w K mg base (CXo P w) k fD fdD ["doing","deeds"] (vj cf CD CS bs qs n)) (MF:Mt K CD "fill" "Doing.fill" gT ["self","box","worth"] fF fdF) (MQ:Mt K CD "queue_of" "Doing.queue_of" eQ ["self","name"] fQ fdQ) (T:DT K mg CD) (TM:MdT K mg CM CS) :
  cm P w K mg base (CXo P w) (k + 1) f fd ["doing","name","box","otherwise"] (FG cf CD CS bs qs n):=by
 have GF:cm P w K mg base CX0 1 fF fdF ["self","box","worth"] (xZ CD CS bs qs):=x5 MF T TM;have GQ:cm P w K mg base CX0 1 fQ fdQ ["self","name"] (FB CD CS bs qs):=FC MQ T TM;refine D.F.okX scPl (fun vs H Q E h=>?_) (fun cdv A outer s H vs Q E hr h=>?_)
 ·obtain ⟨H0,L,e,ds,w,q,x,v,D,rfl,_⟩:=h;rfl
 obtain ⟨H0,L,e,ds,w,q,x,v,D,rfl,g,hq,hx,hv,hn,ho,p⟩:=h;have r1:d5 1 _:=hr.mono hk;have hu:=qx hr;refine ⟨_,ak (aZ (i:=4) scPl.nd rfl (Or.inl rfl) (iq (pv 0) T.cl MQ.m GQ r1 MQ.b .nil bY (av (pv 1) ao)))
  (aF (cS (uR (pv 4) (fun _=>rfl))
   (ak (eK (iq (pv 0) T.cl MF.m GF r1 MF.b .nil bY (av (pv 2) (av (kQ cy yy yz ED (pv 4) (av aw ao)) ao))))
   (aF (nI hu (cW (pv 0) rfl) (pv 1) ko rfl)))
   (aF (eK (aO GD hr rfl DD.m DD.F.kp DD.b .nil (d6.passes fun _ _ _ z=>z) (av (pv 0) (av (pv 3) ao))))))),?_⟩
 simp only [doD] at p;refine ⟨_,rfl,L.d,L.dx,_,rfl,g.hd,oA _ _ _ _ _ _ _ _ (by decide +kernel),_,rfl,H0,L,e,ds,w,q,rfl,g,hq,fun G0 l g0 hl gl=>?_⟩;refine ⟨_,rfl,_,.inl ⟨_,SqL.of gl,rfl⟩,?_⟩;have gq:(iZ w.qu q).length<=30/\∀ n∈iZ w.qu q,Wo n:=xY g.ok hq
 cases e1:iZ w.qu q with
 | nil =>
  rw [e1] at p;refine gi ?_;exact ⟨_,rfl,_,rfl,H0,L,e,ds,_,v,D,rfl,g0,hv,hn,ho,p⟩
 | cons m ms =>
  rw [e1] at p gl gq;refine iF ?_;have g1:=g0.queue (x:=q) (l:=l) (ns:=ms) hl (by have:=gq.1; rw [aR] at this; omega) (fun z hz=>gq.2 z (ah _ hz));refine ⟨_,rfl,L.d,L.dx,_,rfl,g0.hd,oA _ _ _ _ _ _ _ _ (by decide +kernel),_,rfl,_,rfl,.inl ⟨rfl,_,SqL.of gl⟩,l,_,_,0,.int m,rfl,rfl,gl,(by decide),(by decide),(xC (n:=((m :: ms).map V.int).length) (i:=0) (j:=0) (by unfold ixN; rw [if_pos (by decide),if_pos (by rw [ai,aR]; omega)]; rfl)).1,rfl,?_⟩;refine ⟨H0,L,e,ds,_,x,m,rfl,g1,hx,gq.2 m aD,fun G2 g2=>?_⟩;have g3:=g2.wrote (x:=q) (bL _ hq);exact ⟨_,rfl,L.d,CD,L.dx,_,_,rfl,g2.hd,T.cl,T.nW,Fq _ _ _ _ _ _ _ _,_,rfl,L.wd,_,rfl,g2.putW q,p _ g3 (IA _ _)⟩
theorem scDd:cv ["doing","deed","kind"] ["doing","deed"] (aQ mJ):={}
theorem IB {n k:Nat} (hk:19<=k) (D:Df K mg "do_deed" mJ ["doing","deed"] f fd) (DD:Df K mg "do_deeds" iH ["doing","deeds"] fD fdD) (GD:cm P w K mg base (CXo P w) k fD fdD ["doing","deeds"] (vj cf CD CS bs qs n))
  (MF:Mt K CD "fill" "Doing.fill" gT ["self","box","worth"] fF fdF) (MR:Mt K CD "reckon" "Doing.reckon" eX ["self","formula"] fR fdR) (GR:cm P w K mg base (CXo P w) 18 fR fdR ["self","formula"] (tj cf CD CS bs qs))
  (DP:Df K mg "do_pull" mO ["doing","name","box","otherwise"] fP fdP) (DU:Df K mg "do_push" mK ["doing","name","formula"] fU fdU) (GU:cm P w K mg base (CXo P w) 19 fU fdU ["doing","name","formula"] (Au cf CD CS bs qs))
  (DW:Df K mg "do_draw" mP ["doing","box","formula"] fW fdW) (GW:cm P w K mg base (CXo P w) 19 fW fdW ["doing","box","formula"] (x6 cf CD CS bs qs)) (DS:Df K mg "do_send" mQ ["doing","deed"] fS fdS) (GS:cm P w K mg base (CXo P w) 19 fS fdS ["doing","deed"] (Av cf CD CS bs qs)) (MQ:Mt K CD "queue_of" "Doing.queue_of" eQ ["self","name"] fQ fdQ) (T:DT K mg CD) (TM:MdT K mg CM CS) :
  cm P w K mg base (CXo P w) (k + 2) f fd ["doing","deed"] (spDd cf CD CS bs qs (n + 1)):=by
 have GF:cm P w K mg base CX0 1 fF fdF ["self","box","worth"] (xZ CD CS bs qs):=x5 MF T TM;have GP:cm P w K mg base (CXo P w) (k + 1) fP fdP ["doing","name","box","otherwise"] (FG cf CD CS bs qs n):=Iz (by omega) DP DD GD MF MQ T TM;refine D.F.okX scDd (fun vs H Q E h=>?_) (fun cdv A outer s H vs Q E hr h=>?_)
 ·obtain ⟨H0,L,e,ds,w,v,D,rfl,_⟩:=h;rfl
 obtain ⟨H0,L,e,ds,w,v,D,rfl,g,hv,hn,ho,p⟩:=h;have r1:d5 1 _:=hr.mono (by omega);have r18:d5 18 _:=hr.mono (by omega);have r19:d5 19 _:=hr.mono (by omega);have rk:d5 k _:=hr.mono (by omega);refine ⟨_,ak (aZ (i:=2) scDd.nd rfl (Or.inl rfl) (bT cL (pv 1) aw (fun _ _=>rfl)))
  (aF (cS (bM eG (pv 2) cA (cj _)) (aF (eK (iq (pv 0) T.cl MF.m GF r1 MF.b .nil bY (av (bT cL (pv 1) aw (fun _ _=>rfl)) (av (iq (pv 0) T.cl MR.m GR r18 MR.b .nil (d6.passes fun _ _ _ z=>z) (av (bT cL (pv 1) aw (fun _ _=>rfl)) ao)) ao)))))
  (aF (cS (bM eG (pv 2) cA (cj _)) (aF (eK (aO GU r19 rfl DU.m DU.F.kp DU.b .nil (d6.passes fun _ _ _ z=>z) (av (pv 0) (av (bT cL (pv 1) aw (fun _ _=>rfl)) (av (bT cL (pv 1) aw (fun _ _=>rfl)) ao))))))
  (aF (cS (bM eG (pv 2) cA (cj _)) (aF (eK (aO GP hr rfl DP.m DP.F.kp DP.b .nil (d6.passes fun _ _ _ z=>z) (av (pv 0) (av (bT cL (pv 1) aw (fun _ _=>rfl)) (av (bT cL (pv 1) aw (fun _ _=>rfl)) (av (bT cL (pv 1) aw (fun _ _=>rfl)) ao)))))))
  (aF (cS (bM eG (pv 2) cA (cj _)) (aF (eK (aO GW r19 rfl DW.m DW.F.kp DW.b .nil (d6.passes fun _ _ _ z=>z) (av (pv 0) (av (bT cL (pv 1) aw (fun _ _=>rfl)) (av (bT cL (pv 1) aw (fun _ _=>rfl)) ao))))))
  (aF (cS (bM eG (pv 2) cA (cj _)) (aF (eK (aO GS r19 rfl DS.m DS.F.kp DS.b .nil (d6.passes fun _ _ _ z=>z) (av (pv 0) (av (pv 1) ao)))))
  (aF (cS (bM eG (pv 2) cA (cj _)) (aF (eK (aO GD rk rfl DD.m DD.F.kp DD.b .nil (d6.passes fun _ _ _ z=>z) (av (pv 0) (av (q8 (bM op_ne (iq (pv 0) T.cl MR.m GR r18 MR.b .nil (d6.passes fun _ _ _ z=>z) (av (bT cL (pv 1) aw (fun _ _=>rfl)) ao)) aw (cj _)) (bT cL (pv 1) aw (fun _ _=>rfl)) (bT cL (pv 1) aw (fun _ _=>rfl))) ao)))))
  (aF (cS (bM eG (pv 2) cA (cj _)) (aF (gb (pv 0) ko rfl)) cq)))))))))))))),?_⟩
 have no:∀ {m:Str},Ar.contains m=false->(dF L.m L.hv L.st L.wd L.od w.en L.rd L.ud).lookup m=none:=fun z=>oA _ _ _ _ _ _ _ _ z;have nx:∀ {a b:Str} {p1 p2:Prop},(a == b)=false->p2->(if decide (V.str a=V.str b)=true then p1 else p2):=fun z q=>mU (uk (sne z)) (gi q);have yx:∀ {a:Str} {p1 p2:Prop},p1->(if decide (V.str a=V.str a)=true then p1 else p2):=fun q=>mU (CV _) (iF q);have fw:w.len < 400000:=by omega
 cases D with
 | put x F =>
  obtain ⟨t,u,rfl,ht,hx,hF⟩:=(by simpa only [eB] using hv);have tt:=SqT.of (K:=K) (g.sm _ _ ht);simp only [doD] at p;refine ⟨_,rfl,t,_,_,_,rfl,rfl,tt,rfl,_,rfl,rfl,_,rfl,yx ?_⟩;refine ⟨_,rfl,L.d,L.dx,_,rfl,g.hd,no (by decide +kernel),_,rfl,t,_,_,_,rfl,rfl,tt,rfl,?_⟩;refine ⟨_,rfl,L.d,L.dx,_,rfl,g.hd,no (by decide +kernel),_,rfl,t,_,_,_,rfl,rfl,tt,rfl,H0,L,e,ds,w,u,F,rfl,g,hF,fw,fun G1 g1=>?_⟩;refine lu p g1.sm fun m em p=>?_;exact ⟨H0,L,e,ds,_,x,m,rfl,g1,hx,tY g1.asks (hF.1.same g1.sm) em,fun G' g'=>p G' g' (As (w:=w) (F:=F))⟩
 | push x F =>
  obtain ⟨t,u,rfl,ht,hx,hF⟩:=(by simpa only [eB] using hv);have tt:=SqT.of (K:=K) (g.sm _ _ ht);refine ⟨_,rfl,t,_,_,_,rfl,rfl,tt,rfl,_,rfl,rfl,_,rfl,nx (by decide +kernel) ?_⟩;refine ⟨_,rfl,rfl,_,rfl,yx ?_⟩;exact ⟨_,rfl,_,rfl,t,_,_,_,rfl,rfl,tt,rfl,_,rfl,t,_,_,_,rfl,rfl,tt,rfl,H0,L,e,ds,w,x,u,F,rfl,g,hx,hF,fw,p⟩
 | pull q x o =>
  obtain ⟨t,u,rfl,ht,hq,hx,hl⟩:=(by simpa only [eB] using hv);have tt:=SqT.of (K:=K) (g.sm _ _ ht);simp only [Dd.deep] at hn;simp only [Dd.size] at ho p;refine ⟨_,rfl,t,_,_,_,rfl,rfl,tt,rfl,_,rfl,rfl,_,rfl,nx (by decide +kernel) ?_⟩;refine ⟨_,rfl,rfl,_,rfl,nx (by decide +kernel) ?_⟩;refine ⟨_,rfl,rfl,_,rfl,yx ?_⟩;exact ⟨_,rfl,_,rfl,t,_,_,_,rfl,rfl,tt,rfl,_,rfl,t,_,_,_,rfl,rfl,tt,rfl,_,rfl,t,_,_,_,rfl,rfl,tt,rfl,H0,L,e,ds,w,q,x,u,o,rfl,g,hq,hx,hl,(by omega),(by omega),p.le (by omega)⟩
 | draw x F =>
  obtain ⟨t,u,rfl,ht,hx,hF⟩:=(by simpa only [eB] using hv);have tt:=SqT.of (K:=K) (g.sm _ _ ht);refine ⟨_,rfl,t,_,_,_,rfl,rfl,tt,rfl,_,rfl,rfl,_,rfl,nx (by decide +kernel) ?_⟩;refine ⟨_,rfl,rfl,_,rfl,nx (by decide +kernel) ?_⟩;refine ⟨_,rfl,rfl,_,rfl,nx (by decide +kernel) ?_⟩;refine ⟨_,rfl,rfl,_,rfl,yx ?_⟩;exact ⟨_,rfl,_,rfl,t,_,_,_,rfl,rfl,tt,rfl,_,rfl,t,_,_,_,rfl,rfl,tt,rfl,H0,L,e,ds,w,x,u,F,rfl,g,hx,hF,fw,p⟩
 | send to sg F rk F1 F2 =>
  obtain ⟨t,u,u1,u2,rfl,ht,hF,hF1,hF2⟩:=(by simpa only [eB] using hv);have tt:=SqT.of (K:=K) (g.sm _ _ ht);simp only [Dd.size] at ho p;refine ⟨_,rfl,t,_,_,_,rfl,rfl,tt,rfl,_,rfl,rfl,_,rfl,nx (by decide +kernel) ?_⟩;refine ⟨_,rfl,rfl,_,rfl,nx (by decide +kernel) ?_⟩;refine ⟨_,rfl,rfl,_,rfl,nx (by decide +kernel) ?_⟩;refine ⟨_,rfl,rfl,_,rfl,nx (by decide +kernel) ?_⟩;refine ⟨_,rfl,rfl,_,rfl,yx ?_⟩;exact ⟨_,rfl,_,rfl,H0,L,e,ds,w,t,u,u1,u2,to,sg,rk,F,F1,F2,rfl,g,ht,hF,hF1,hF2,(by omega),p⟩
 | ife F x y =>
  obtain ⟨t,u,u1,u2,rfl,ht,hF,hX,hY⟩:=(by simpa only [eB] using hv);simp only [Dd.deep] at hn;simp only [Dd.size] at ho p;simp only [doD] at p;have tt:=SqT.of (K:=K) (g.sm _ _ ht);refine ⟨_,rfl,t,_,_,_,rfl,rfl,tt,rfl,_,rfl,rfl,_,rfl,nx (by decide +kernel) ?_⟩;refine ⟨_,rfl,rfl,_,rfl,nx (by decide +kernel) ?_⟩;refine ⟨_,rfl,rfl,_,rfl,nx (by decide +kernel) ?_⟩;refine ⟨_,rfl,rfl,_,rfl,nx (by decide +kernel) ?_⟩;refine ⟨_,rfl,rfl,_,rfl,nx (by decide +kernel) ?_⟩;refine ⟨_,rfl,rfl,_,rfl,yx ?_⟩;refine ⟨_,rfl,_,rfl,L.d,L.dx,_,rfl,g.hd,no (by decide +kernel),_,rfl,t,_,_,_,rfl,rfl,tt,rfl,H0,L,e,ds,w,u,F,rfl,g,hF,fw,fun G1 g1=>?_⟩;have tt1:=SqT.of (K:=K) (g1.sm _ _ ht);have lw:Wk.len {w with rk:=w.rk++[F]}=w.len + 1:=by
   show w.out.length + (w.rk++[F]).length=w.out.length + w.rk.length + 1;rw [ax];rfl
  refine lu p g1.sm fun m em p=>?_;refine ⟨rfl,_,rfl,?_⟩
  by_cases c:m=0
  ·subst c;rw [if_pos rfl] at p;refine mU (b:=false) rfl (gi ?_);exact ⟨_,rfl,t,_,_,_,rfl,rfl,tt1,rfl,H0,L,e,ds,_,u2,y,rfl,g1,hY,(by omega),(by rw [lw]; omega),p.le (by rw [lw]; omega)⟩
  ·rw [if_neg c] at p;refine mU (b:=true) (by rw [decide_eq_false (fun z=>c (xX z))]; rfl) (iF ?_);exact ⟨_,rfl,t,_,_,_,rfl,rfl,tt1,rfl,H0,L,e,ds,_,u1,x,rfl,g1,hX,(by omega),(by rw [lw]; omega),p.le (by rw [lw]; omega)⟩
 | fin =>
  obtain ⟨t,rfl,ht⟩:=(by simpa only [eB] using hv);have tt:=SqT.of (K:=K) (g.sm _ _ ht);simp only [doD] at p;refine ⟨_,rfl,t,_,_,_,rfl,rfl,tt,rfl,_,rfl,rfl,_,rfl,nx (by decide +kernel) ?_⟩;refine ⟨_,rfl,rfl,_,rfl,nx (by decide +kernel) ?_⟩;refine ⟨_,rfl,rfl,_,rfl,nx (by decide +kernel) ?_⟩;refine ⟨_,rfl,rfl,_,rfl,nx (by decide +kernel) ?_⟩;refine ⟨_,rfl,rfl,_,rfl,nx (by decide +kernel) ?_⟩;refine ⟨_,rfl,rfl,_,rfl,nx (by decide +kernel) ?_⟩;refine ⟨_,rfl,rfl,_,rfl,yx ?_⟩;refine ⟨_,rfl,L.d,CD,L.dx,_,rfl,g.hd,T.cl,T.nE,Lo _ _ _ _ _ _ _ _,?_⟩;rw [Lj];exact p _ g.ended (IA _ _)
theorem scDs:cv ["doing","deeds","deed"] ["doing","deeds"] (aQ iH):={}
theorem C1 {n k:Nat} (D:Df K mg "do_deeds" iH ["doing","deeds"] f fd) (D1:Df K mg "do_deed" mJ ["doing","deed"] f1 fd1) (G1:cm P w K mg base (CXo P w) k f1 fd1 ["doing","deed"] (spDd cf CD CS bs qs n)) :
  cm P w K mg base (CXo P w) (k + 1) f fd ["doing","deeds"] (vj cf CD CS bs qs n):=by
 refine D.F.okX scDs (fun vs H Q E h=>?_) (fun cdv A outer s H vs Q E hr h=>?_)
 ·obtain ⟨H0,L,e,ds,w,v,D,rfl,_⟩:=h;rfl
 obtain ⟨H0,L,e,ds,w,v,D,rfl,g,⟨l,vs,rfl,hl,hlen,hD⟩,hn,ho,p⟩:=h;refine ⟨_,aF (jy d6.own rfl (i0 (pv 1)) (cP (i:=2) scDs.nd rfl (Or.inl rfl)) (aF (eK (aO G1 hr rfl D1.m D1.F.kp D1.b .nil (d6.passes fun _ _ _ z=>z) (av (pv 0) (av (pv 2) ao)))))),?_⟩;refine ⟨_,rfl,l,rfl,⟨_,SqL.of (g.sm _ _ hl)⟩,kM (K:=K) (a:=l) (xs:=vs) (fun i σ G=>∃ (D':Ds) (w':Wk) (u:Option V),σ=[some (.ref L.d),some (.ref l),u]/\Dg CD CS bs qs H0 G L e ds w'/\eZ bs qs H0 D' (vs.drop i)/\D'.deep < n/\w'.len + 4 * D'.size<=w.len + 4 * D.size /\
  tf cf (fun w' G'=>Dg CD CS bs qs H0 G' L e ds w') H0 (w.len + 4 * D.size) (doS e ds D' w') Q E) ⟨D,w,none,rfl,g,hD,hn,aE _,p⟩ ?_ ?_ ?_⟩
 ·rintro i σ G _ ⟨D',w',u,rfl,g',_⟩;exact SqL.of (g'.sm _ _ hl)
 ·rintro i x σ G hi ⟨D',w',u,rfl,g',hD',hn',ho',p'⟩;have lt:i < vs.length:=(aC.mp hi).1;have hx:vs[i]=x:=(aC.mp hi).2;rw [mj lt,hx] at hD'
  cases D' with
  | nil =>
   simp only [eZ] at hD'
   cases hD'
  | cons d r =>
   obtain ⟨v0,vr,ev,hd,hr'⟩:=(by simpa only [eZ] using hD')
   cases ev;simp only [Ds.deep] at hn';simp only [Ds.size] at ho';refine ⟨_,rfl,_,rfl,H0,L,e,ds,w',x,d,rfl,g',hd,(by omega),(by omega),?_⟩;simp only [doS] at p'
   cases ed:doD e ds d w' with
   | error er =>
    rw [ed] at p';exact p'
   | ok w2 =>
    rw [ed] at p';intro G2 g2 l2;exact ⟨r,w2,_,rfl,g2,hr',(by omega),(by omega),p'⟩
 ·rintro σ G ⟨D',w',u,rfl,g',hD',hn',ho',p'⟩;rw [Hh] at hD'
  cases D' with
  | nil =>
   simp only [doS] at p';exact p' G g' (by omega)
  | cons d r =>
   obtain ⟨v0,vr,ev,_⟩:=(by simpa only [eZ] using hD')
   cases ev
theorem zi (D:Df K mg "do_deeds" iH ["doing","deeds"] f fd) (D1:Df K mg "do_deed" mJ ["doing","deed"] f1 fd1)
  (MF:Mt K CD "fill" "Doing.fill" gT ["self","box","worth"] fF fdF) (MR:Mt K CD "reckon" "Doing.reckon" eX ["self","formula"] fR fdR) (GR:cm P w K mg base (CXo P w) 18 fR fdR ["self","formula"] (tj cf CD CS bs qs))
  (DP:Df K mg "do_pull" mO ["doing","name","box","otherwise"] fP fdP) (DU:Df K mg "do_push" mK ["doing","name","formula"] fU fdU) (GU:cm P w K mg base (CXo P w) 19 fU fdU ["doing","name","formula"] (Au cf CD CS bs qs))
  (DW:Df K mg "do_draw" mP ["doing","box","formula"] fW fdW) (GW:cm P w K mg base (CXo P w) 19 fW fdW ["doing","box","formula"] (x6 cf CD CS bs qs)) (DS:Df K mg "do_send" mQ ["doing","deed"] fS fdS) (GS:cm P w K mg base (CXo P w) 19 fS fdS ["doing","deed"] (Av cf CD CS bs qs)) (MQ:Mt K CD "queue_of" "Doing.queue_of" eQ ["self","name"] fQ fdQ) (T:DT K mg CD) (TM:MdT K mg CM CS) :
  ∀ n:Nat,cm P w K mg base (CXo P w) (20 + 3 * n) f fd ["doing","deeds"] (vj cf CD CS bs qs n)
 | 0=>by
  have no:∀ vs H Q E,¬ vj cf CD CS bs qs 0 vs H Q E:=fun vs H Q E h=>by
   obtain ⟨H0,L,e,ds,w,v,D,_,_,_,hn,_⟩:=h;omega
  exact ⟨fun vs H Q E h=>absurd h (no vs H Q E),fun A outer s H args us vs Q E _ _ _ _ h=>absurd h (no vs H Q E)⟩
 | n + 1=>C1 D D1 (IB (n:=n) (k:=20 + 3 * n) (by omega) D1 D (zi D D1 MF MR GR DP DU GU DW GW DS GS MQ T TM n) MF MR GR DP DU GU DW GW DS GS MQ T TM)
end
end My
namespace L2
open PySem PySem.Spec PyProof.Rows
theorem Aw {X:Cx}:oQ X (.type "dict") (fun xs H Q=>∃ d kvs,xs=[V.ref d]/\H d=some (.dK kvs)/\∀ p,H p=none->Q (.ref p) (upd H p (.dK kvs))):=by
 intro pins s σ H xs us Q I r h;obtain ⟨d,kvs,rfl,hd,q⟩:=h;obtain ⟨u,rfl,ru⟩:=vals1 r
 cases ru;obtain ⟨hz,n1,ws,k1,m1⟩:=(show eE X.prog X.w H s.heap d (.dK kvs) from I.hok d _ hd);refine kt_call_dict (knd:=fK X.prog X.w) n1 m1 (by rw [<- k1.length]; exact hz) fun h' hn sb=>?_;have kk:∀ b o,s.heap.get? b=some o->h'.get? b=some o:=fun b o e=>(sb.2 b (aN (aM e))).trans (aJ _ e);exact ⟨.ref s.heap.objs.size,_,I.laid (a:=s.heap.objs.size) (o:=.dK kvs) (t':=s.toks) kk (aE _) (z9 hz (beq_eq_false_iff_ne.mpr (fV (aN I.big))) k1 hn),rfl,q _ (I.hok.fresh (aE _))⟩
end L2
namespace My
open PySem L2
def mh (CS:aa) (H:Hp) (st:aa) (bx:List (Str×Int)) (qu:List (Str×List Int)) (dr:Nat) (se:Int):Prop:=
 ∃ dx bd qd qa,H st=some (.ins CS dx (nZ (.ref bd) (.ref qd) (.int dr) (.int se)))/\H bd=some (.dK (boK bx))/\H qd=some (.dK (quK qa))/\gA H qa qu
theorem gA.same {G G':Hp} (s:bj G G') {qa:List (Str×aa)} {qu:List (Str×List Int)} (q:gA G qa qu):gA G' qa qu:=
 gA.keep (L:=⟨0,0,0,0,0,0,0,0,0,0,.non,.non,qa⟩) (fun a u e _=>s _ _ e) (fun _ h=>h) q
theorem mh.same {CS:aa} {H H':Hp} (s:bj H H') {st:aa} {bx:List (Str×Int)} {qu:List (Str×List Int)} {dr:Nat} {se:Int} (h:mh CS H st bx qu dr se):mh CS H' st bx qu dr se:=by
 obtain ⟨dx,bd,qd,qa,h1,h2,h3,h4⟩:=h;exact ⟨dx,bd,qd,qa,s _ _ h1,s _ _ h2,s _ _ h3,h4.same s⟩
structure StNew (CS:aa) (H G:Hp) (st:aa) (bx:List (Str×Int)) (qu:List (Str×List Int)) (dr:Nat) (se:Int) (dxs bd qd:aa) (qa:List (Str×aa)):Prop where
 sm:bj H G
 hst:G st=some (.ins CS dxs (nZ (.ref bd) (.ref qd) (.int dr) (.int se)))
 hb:G bd=some (.dK (boK bx))
 hq:G qd=some (.dK (quK qa))
 hl:gA G qa qu
 nd:(st :: bd :: qd :: qa.map (·.2)).Nodup
 fr:∀ a∈st :: bd :: qd :: qa.map (·.2),H a=none
inductive BC (CS:aa) (vs:List V) (H:Hp) (Q:VK) (_e:XK):Prop where
 | mk (st:aa) (bx:List (Str×Int)) (qu:List (Str×List Int)) (dr:Nat) (se:Int) (_:vs=[.ref st]) (_:mh CS H st bx qu dr se) (_:(qu.map (·.1)).Nodup) (_:qu.length < 100) (_:∀ (G:Hp) (st' dxs bd qd:aa) (qa:List (Str×aa)),StNew CS H G st' bx qu dr se dxs bd qd qa->Q (.ref st') G):BC CS vs H Q _e
def FH (CS:aa):Sp:=fun vs H Q _e=>BC CS vs H Q _e
theorem IC {qa:List (Str×aa)} {x:Str} {l:aa} (h:x∉qa.map (·.1)):jI (quK qa) (Sum.inr x) (.ref l)=quK (qa++[(x,l)]):=by
 have e:qa.lookup x=none:=by
  cases z:qa.lookup x with
  | none=>rfl
  | some a=>exact absurd (cB.mpr ⟨_,pG z,rfl⟩) h
 unfold jI;have v:lI (quK qa) (Sum.inr x)=none:=by
  have z:=rJ V.ref x qa;rw [e] at z;exact z
 rw [kT,v];show (if false=true then _ else _)=_;rw [if_neg (by decide)];unfold quK;rw [bV];rfl
theorem BD (qa:List (Str×aa)):(quK qa).length=qa.length:=ai _
theorem gA.len {G:Hp} {qa:List (Str×aa)} {qu:List (Str×List Int)} (q:gA G qa qu):qa.length=qu.length:=aX q
theorem gA.nm {G:Hp}:∀ {qa:List (Str×aa)} {qu:List (Str×List Int)},gA G qa qu->qa.map (·.1)=qu.map (·.1)
 | _,_,.nil=>rfl
 | _ :: _,_ :: _,.cons a b=>by rw [cu,cu,a.1,gA.nm b]
theorem gA.nth {G:Hp}:∀ {qa:List (Str×aa)} {qu:List (Str×List Int)} {i:Nat} {p:Str×aa},gA G qa qu->qa[i]?=some p->∃ q,qu[i]?=some q/\p.1=q.1/\G p.2=some (.lst (q.2.map V.int))
 | _,_,i,p,.nil,h=>by simp at h
 | _ :: _,_ :: _,0,p,.cons a b,h=>by
  simp at h;subst h;exact ⟨_,rfl,a.1,a.2⟩
 | _ :: _,_ :: _,i + 1,p,.cons a b,h=>by
  obtain ⟨q,h1,h2⟩:=gA.nth (i:=i) (p:=p) b (by simpa using h);exact ⟨q,by simpa using h1,h2⟩
section
variable {P:aL} {w:bN} {K:ae} {mg:Str->Option af} {base:cF} {f fI CD CS CM:aa} {fd fdI:cw}
theorem ID:cv ["self","queues","name","worths"] ["self"] (aQ jC):={}
theorem IE (F:Fun K "copy" "State.copy" jC f fd) (MS:Mk K CS fI) (FI:Fun K "__init__" "State.__init__" jB fI fdI) (bI:Binds K fdI ["self","boxes","queues","drawn","sent"] []) (B:Bl mg) (T:MdT K mg CM CS) :
  cm P w K mg base CX0 3 f fd ["self"] (FH CS):=by
 have GI:cm P w K mg base CX0 1 fI fdI ["self","boxes","queues","drawn","sent"] (Lb CS):=JF FI T;refine F.ok ID (fun vs H Q E h=>?_) (fun cdv A outer s H vs Q E hr h=>?_)
 ·obtain ⟨st,bx,qu,dr,se,rfl,_⟩:=h;rfl
 obtain ⟨st,bx,qu,dr,se,rfl,⟨dx,bd,qd,qa,hst,hb,hq,hl⟩,ndq,lq,k⟩:=h;have hu:=qx hr;refine ⟨_,ak (aZ (i:=1) ID.nd rfl (Or.inl rfl) rq)
  (ak (HU (jy dy rfl (EU (cW (pv 0) rfl)) (xp rfl (eF (cP (i:=2) ID.nd rfl (Or.inl rfl)) (eF (cP (i:=3) ID.nd rfl (Or.inl rfl)) nj))) (aF (nI hu (pv 1) (pv 2) (iM rj (by rfl) B.list boot_list (av (pv 3) ao)) rfl))))
  (aF (bQ (pU MS GI hr (by rfl) T.mS bI .nil bY (av (iM Aw (by rfl) B.dict boot_dict (av (cW (pv 0) rfl) ao)) (av (pv 1) (av (cW (pv 0) rfl) (av (cW (pv 0) rfl) ao)))))))),?_⟩
 intro d hd;have s1:bj H (upd H d (.dK [])):=aA hd _;have nf:∀ (ob:Obj) (u:HO),H qd≠some (.frz ob u):=fun ob u z=>by
  rw [hq] at z
  cases z
 have ndd:d≠qd:=(aG hq hd).symm;have nlq:(qa.map (·.1)).Nodup:=by
  rw [hl.nm];exact ndq
 refine ⟨_,rfl,st,CS,dx,_,_,rfl,s1 _ _ hst,T.clS,T.nQ,Im _ _ _ _,qd,_,rfl,s1 _ _ hq,nf,fun od=>?_⟩;refine CA (d:=qd) (od:=od) (kvs:=quK qa) (fun i σ G=>∃ (v2 v3:Option V) (qa':List (Str×aa)),σ=[some (.ref st),some (.ref d),v2,v3]/\G qd=some (.frz od (.dK (quK qa)))/\(∀ b o,H b=some o->b≠qd->G b=some o)/\G d=some (.dK (quK qa')) /\
  gA G qa' (qu.take i)/\(qa'.map (·.2)).Nodup/\∀ a∈qa'.map (·.2),H a=none/\a≠d) ⟨none,none,[],rfl,ag,fun b o e n=>?_,?_,?_,jO,fun a h=>by cases h⟩ ?_ ?_ ?_
 ·rw [aK n];exact s1 _ _ e
 ·rw [aK ndd];exact ag
 ·rw [lU];exact .nil
 ·rintro i σ G _ ⟨_,_,_,_,h1,_⟩;exact h1
 ·rintro i kv t σ G hi ⟨v2,v3,qa',rfl,g1,g2,g3,g4,g5,g6⟩ ht;obtain ⟨p,hp,rfl⟩:∃ p,qa[i]?=some p/\kv=((Sum.inr p.1:Key),V.ref p.2):=by
   unfold quK at hi;rw [bS] at hi
   cases z:qa[i]? with
   | none =>
    rw [z] at hi
    cases hi
   | some p =>
    rw [z] at hi
    cases hi;exact ⟨p,rfl,rfl⟩
  obtain ⟨q,hq1,hq2,hq3⟩:=hl.nth hp;have st_:=aA ht (.tup [kV (Sum.inr p.1),.ref p.2]);have npq:p.2≠qd:=mr hq3 hq (by intro z; cases z);refine ⟨t,_,rfl,SqT.of ag,rfl,_,_,rfl,_,_,rfl,rfl,?_⟩;refine ⟨_,rfl,p.2,_,rfl,.inl (SqL.of (st_ _ _ (g2 _ _ hq3 npq))),fun l hl'=>?_⟩;have sl:=aA hl' (.lst (q.2.map V.int));have gd2:=sl _ _ (st_ _ _ g3);have lti:i < qu.length:=(aC.mp hq1).1;have tk:(qu.take (i + 1))=qu.take i++[q]:=by
   rw [gm,hq1];rfl
  have nin:p.1∉qa'.map (·.1):=by
   rw [g4.nm,hq2];intro z;have nd2:((qu.take (i + 1)).map (·.1)).Nodup:=by
    rw [rK];exact ndq.sublist (tQ _ _)
   rw [tk,bV] at nd2;exact (iI.mp nd2).2.2 _ z q.1 (by simp) rfl
  have len':(quK qa').length < au:=by
   have z:=g4.len;rw [aT] at z;rw [BD];have:=fq;omega
  have dp:=uf.k (k:=Sum.inr p.1) (v:=.ref l) gd2 len';rw [IC nin] at dp;refine ⟨_,rfl,_,rfl,d,_,rfl,dp,?_⟩;have nlG:G l=none:=by
   cases z:G l with
   | none=>rfl
   | some o =>
    have:=st_ _ _ z;rw [hl'] at this
    cases this
  have nl0:H l=none:=by
   cases z:H l with
   | none=>rfl
   | some o =>
    by_cases c:l=qd
    ·rw [c,g1] at nlG
     cases nlG
    ·rw [g2 _ _ z c] at nlG
     cases nlG
  have nld:l≠d:=fun z=>by rw [z,g3] at nlG; cases nlG
  refine ⟨_,_,qa'++[(p.1,l)],rfl,?_,fun b o e n=>?_,ag,?_,?_,fun a ha=>?_⟩
  ·rw [aK ndd.symm];exact sl _ _ (st_ _ _ g1)
  ·rw [aK (aG e hd)];exact sl _ _ (st_ _ _ (g2 _ _ e n))
  ·rw [tk];have old:gA (upd (upd (upd G t (.tup [kV (Sum.inr p.1),.ref p.2])) l (.lst (q.2.map V.int))) d (.dK (quK (qa'++[(p.1,l)])))) qa' (qu.take i):=
    gA.keep (L:=⟨0,0,0,0,0,0,0,0,0,0,.non,.non,qa'⟩) (fun a u e m=>bz (sl _ _ (st_ _ _ e)) (g6 a m).2) (fun _ h=>h) g4
   exact eS old ⟨hq2,bz ag nld⟩
  ·rw [bV];refine iI.mpr ⟨g5,by simp,fun a ha b hb=>?_⟩;rw [aH.mp hb];intro z;obtain ⟨pp,hpp,e⟩:=cB.mp ha;obtain ⟨j,hj⟩:=dG hpp;obtain ⟨_,_,_,y⟩:=g4.nth hj;rw [e,z,nlG] at y
   cases y
  ·rw [bV] at ha
   rcases bU.mp ha with z | z
   ·exact g6 a z
   ·rw [aH.mp z];exact ⟨nl0,nld⟩
 ·rintro σ G ⟨v2,v3,qa',rfl,g1,g2,g3,g4,g5,g6⟩;rw [BD,hl.len,dQ] at g4;refine ⟨qd,od,_,g1,nf,?_⟩;have sH:bj H (upd G qd (.dK (quK qa))):=fun b o e=>by
   by_cases c:b=qd
   ·rw [c,ag];rw [c,hq] at e;exact e
   ·rw [aK c];exact g2 _ _ e c
  have g3':upd G qd (.dK (quK qa)) d=some (.dK (quK qa')):=bz g3 ndd;have g4':gA (upd G qd (.dK (quK qa))) qa' qu:=
   gA.keep (L:=⟨0,0,0,0,0,0,0,0,0,0,.non,.non,qa'⟩) (fun a u e m=>bz e (aG hq (g6 a m).1).symm) (fun _ h=>h) g4
  generalize upd G qd (.dK (quK qa))=G2 at sH g3' g4';refine ⟨_,rfl,st,CS,dx,_,_,rfl,sH _ _ hst,T.clS,T.nB,Il _ _ _ _,bd,_,rfl,sH _ _ hb,fun e he=>?_⟩;have s3:=aA he (.dK (boK bx));refine ⟨_,rfl,_,rfl,st,CS,dx,_,_,rfl,s3 _ _ (sH _ _ hst),T.clS,T.nD,Lm _ _ _ _,_,rfl,st,CS,dx,_,_,rfl,s3 _ _ (sH _ _ hst),T.clS,T.nS,Ln _ _ _ _,?_⟩;intro x dx' nx ndx nex;refine ⟨x,dx',_,_,_,_,rfl,ag,fun H' hx bt=>⟨rfl,?_⟩⟩;have sm:bj (upd G2 e (.dK (boK bx))) H':=fun b o e2=>by
   have cx:b≠x:=aG e2 nx;refine bt b o ?_ cx;rw [aK cx,aK (aG e2 ndx)];exact e2
  have sm2:=s3.trans sm;have fresh:∀ {a:aa},upd G2 e (.dK (boK bx)) a=none->H a=none:=fun {a} z=>by
   cases y:H a with
   | none=>rfl
   | some o =>
    rw [s3 _ _ (sH _ _ y)] at z
    cases z
  have he0:H e=none:=by
   cases y:H e with
   | none=>rfl
   | some o =>
    rw [sH _ _ y] at he
    cases he
  refine k H' x dx' e d qa' ⟨sH.trans sm2,hx,sm _ _ ag,sm2 _ _ g3',g4'.same sm2,?_,?_⟩
  ·have nx_e:x≠e:=(aG (ag:upd G2 e (.dK (boK bx)) e=_) nx).symm;have nx_d:x≠d:=(aG (s3 _ _ g3') nx).symm;have ne_d:e≠d:=(aG g3' he).symm;have ql:∀ a∈qa'.map (·.2),∃ o,G2 a=some o:=fun a ha=>by
    obtain ⟨pp,hpp,e⟩:=cB.mp ha;obtain ⟨j,hj⟩:=dG hpp;obtain ⟨_,_,_,y⟩:=g4'.nth hj;rw [<- e];exact ⟨_,y⟩
   refine cO.mpr ⟨fun z=>?_,cO.mpr ⟨fun z=>?_,cO.mpr ⟨fun z=>(g6 d z).2 rfl,g5⟩⟩⟩
   ·rcases ay.mp z with z | z
    ·exact nx_e z
    ·rcases ay.mp z with z | z
     ·exact nx_d z
     ·obtain ⟨o,y⟩:=ql x z;exact (aG (s3 _ _ y) nx) rfl
   ·rcases ay.mp z with z | z
    ·exact ne_d z
    ·obtain ⟨o,y⟩:=ql e z;exact (aG y he) rfl
  ·intro a ha
   rcases ay.mp ha with z | z
   ·rw [z];exact fresh nx
   ·rcases ay.mp z with z | z
    ·rw [z];exact he0
    ·rcases ay.mp z with z | z
     ·rw [z];exact hd
     ·exact (g6 a z).1
end
theorem Dg.base {CD CS:aa} {bs qs:List Str} {H0 H0' G G':Hp} {L:Lay} {h:Ev} {ds:List Int} {w:Wk} (g:Dg CD CS bs qs H0 G L h ds w) (s:bj G G') (s0:bj H0 H0') (s1:bj H0' G') (fr:∀ a∈L.all,H0' a=none):Dg CD CS bs qs H0' G' L h ds w:=by
 obtain ⟨t,x1,x2,x3,x4,dl,em,hm,hdl⟩:=g.hm;have g':=g.same s;obtain ⟨rs,r1,r2⟩:=g'.hr;exact ⟨s1,g'.hd,g'.hst,g'.hb,g'.hq,g'.hl,g'.hw,g'.ho,⟨rs,r1,Paired.mono (fun _ _ z=>z.same s0) r2⟩,g'.hu,g.hh.same s0,⟨t,x1,x2,x3,x4,dl,em,s0 _ _ hm,s0 _ _ hdl⟩,g.nd,fr,g.ok,g.wt,g.wa,g.wb⟩
theorem gA.there {G:Hp} {qa:List (Str×aa)} {qu:List (Str×List Int)} (q:gA G qa qu) {a:aa} (h:a∈qa.map (·.2)):∃ xs,G a=some (.lst xs):=by
 obtain ⟨pp,hpp,e⟩:=cB.mp h;obtain ⟨j,hj⟩:=dG hpp;obtain ⟨_,_,_,y⟩:=q.nth hj;rw [<- e];exact ⟨_,y⟩
theorem Dg.there {CD CS:aa} {bs qs:List Str} {H0 G:Hp} {L:Lay} {h:Ev} {ds:List Int} {w:Wk} (g:Dg CD CS bs qs H0 G L h ds w):∀ a∈L.all,∃ o,G a=some o:=fun a ha=>by
 obtain ⟨vs,o1,_⟩:=g.ho;obtain ⟨rs,r1,_⟩:=g.hr;unfold Lay.all at ha;simp only [ay] at ha
 rcases ha with rfl | rfl | rfl | rfl | rfl | rfl | rfl | rfl | ha
 ·exact ⟨_,g.hd⟩
 ·exact ⟨_,g.hst⟩
 ·exact ⟨_,g.hb⟩
 ·exact ⟨_,g.hq⟩
 ·exact ⟨_,g.hw⟩
 ·exact ⟨_,o1⟩
 ·exact ⟨_,r1⟩
 ·exact ⟨_,g.hu⟩
 ·obtain ⟨xs,e⟩:=g.hl.there ha;exact ⟨_,e⟩
def C2 (bs qs:List Str) (H:Hp) (v:V) (p:Str×Ds):Prop:=∃ t u,v=.ref t/\H t=some (.tup [.str p.1,u])/\lR H (eZ bs qs H p.2) u
def jE (hs:List (Str×Ds)) (sg:Str):Ds:=(hs.lookup sg).getD .nil
theorem C2.same {bs qs:List Str} {H H':Hp} (s:bj H H') {v:V} {p:Str×Ds} (h:C2 bs qs H v p):C2 bs qs H' v p:=by
 obtain ⟨t,u,e,h1,h2⟩:=h;exact ⟨t,u,e,s _ _ h1,h2.same s (eZ.same s p.2)⟩
section
variable {P:aL} {w:bN} {K:ae} {mg:Str->Option af} {base:cF} {f fC fI CD CS CM:aa} {fd fdC fdI:cw} {bs qs:List Str}
theorem gp {G:Hp} {a b:aa} {o:HO} (h:upd G a o b=none):b≠a/\G b=none:=by
 by_cases c:b=a
 ·rw [c,ag] at h
  cases h
 ·rw [aK c] at h;exact ⟨c,h⟩
theorem zj {G:Hp} {d wd od rd ud a:aa} {i3 i4 i6 i7 i8 o:HO} (hwd:G wd=none) (hod:G od=none) (hrd:G rd=none) (hud:G ud=none) (e:G a=some o) (n:a≠d):upd (upd (upd (upd (upd (upd (upd (upd (upd G d i3) wd (.dK [])) d i4) od (.lst [])) d i6) rd (.lst [])) d i7) ud (.dK [])) d i8 a=some o:=
 bz (bz (bz (bz (bz (bz (bz (bz (bz e n) (aG e hwd)) n) (aG e hod)) n) (aG e hrd)) n) (aG e hud)) n
inductive JO (CD CS:aa) (bs qs:List Str) (vs:List V) (H:Hp) (Q:VK) (_e:XK):Prop where
 | mk (H0:Hp) (d dx st:aa) (m hv:V) (h:Ev) (ds:List Int) (bx:List (Str×Int)) (qu:List (Str×List Int)) (dr:Nat) (se:Int) (_:vs=[.ref d,m,.ref st,hv]) (_:H d=some (.ins CD dx [])) (_:H0 d=none) (_:bj H0 H) (_:mh CS H0 st bx qu dr se) (_:gK H0 hv h) (_:(∃ t x1 x2 x3 x4 dl,m=.ref t/\H0 t=some (.tup [x1,x2,x3,.ref dl,x4])/\H0 dl=some (.lst (ds.map V.int)))) (_:qq bs qs ⟨bx,qu,dr,se,[],[],false,[],[]⟩) (_:Wo h.t) (_:Wo h.a) (_:Wo h.b) (_:∀ (G:Hp) (L:Lay),L.d=d->L.m=m->Dg CD CS bs qs H0 G L h ds ⟨bx,qu,dr,se,[],[],false,[],[]⟩->Q .non G):JO CD CS bs qs vs H Q _e
def Lq (CD CS:aa) (bs qs:List Str):Sp:=fun vs H Q _e=>JO CD CS bs qs vs H Q _e
theorem scDI:cv ["self","machine","state","happening"] ["self","machine","state","happening"] (aQ nK):={}
theorem ok_DI (F:Fun K "__init__" "Doing.__init__" nK f fd) (MC:Mt K CS "copy" "State.copy" jC ["self"] fC fdC) (GC:cm P w K mg base CX0 3 fC fdC ["self"] (FH CS)) (T:DT K mg CD) (TM:MdT K mg CM CS):cm P w K mg base CX0 4 f fd ["self","machine","state","happening"] (Lq CD CS bs qs):=by
 refine F.ok scDI (fun vs H Q E h=>?_) (fun cdv A outer s H vs Q E hr h=>?_)
 ·obtain ⟨H0,d,dx,st,m,hv,h,ds,bx,qu,dr,se,rfl,_⟩:=h;rfl
 obtain ⟨H0,d,dx,st,m,hv,h,ds,bx,qu,dr,se,rfl,hd,nd0,s0,hS,hE,hM,ok,wt,wa,wb,k⟩:=h;refine ⟨_,ak (gb (pv 0) (pv 1) rfl) (ak (gb (pv 0) (pv 3) rfl) (ak (gb (pv 0) (rg (pv 2) TM.clS MC.m GC hr MC.b .nil bY) rfl) (ak (gb (pv 0) rq rfl) (ak (gb (pv 0) (dh ao) rfl) (ak (gb (pv 0) ko rfl) (ak (gb (pv 0) (dh ao) rfl) (aF (gb (pv 0) rq rfl)))))))),?_⟩;have l1:=hJ "machine" m [];have l2:=hJ "happening" hv (dM "machine" m []);simp only [cU] at l1;refine ⟨_,rfl,_,rfl,d,CD,dx,[],rfl,hd,T.cl,T.nM,(by show 0 < 1000; decide),?_⟩;refine ⟨_,rfl,_,rfl,d,CD,dx,_,rfl,ag,T.cl,T.nH,(by omega),?_⟩;rw [AZ];have sd:∀ (o:HO),bj H0 (upd H d o):=fun o b u e=>by
  rw [aK (aG e nd0)];exact s0 _ _ e
 obtain ⟨dxs0,bd0,qd0,qa0,hst0,_⟩:=id hS;refine ⟨_,rfl,st,dxs0,_,rfl,sd _ _ _ hst0,st_no _ _ _ _ (by decide +kernel),st,bx,qu,dr,se,rfl,hS.same (sd _),(by rw [ok.kq]; exact ok.nq),?_,fun G st' dxs bd qd qa N=>?_⟩
 ·have e:=congrArg gD ok.kq;rw [ai] at e;have:=ok.fw;rw [ax] at this;show qu.length < 100;have e:qu.length=qs.length:=e;omega
 have gd:G d=some (.ins CD dx (dM "happening" hv (dM "machine" m []))):=N.sm _ _ ag;have l3:=hJ "state" (.ref st') (dM "happening" hv (dM "machine" m []));have l4:=fun wd=>hJ "written" (.ref wd) (dM "state" (.ref st') (dM "happening" hv (dM "machine" m [])));have l5:=fun od wd=>hJ "outgoing" (.ref od) (dM "written" (.ref wd) (dM "state" (.ref st') (dM "happening" hv (dM "machine" m []))));refine ⟨_,rfl,d,CD,dx,_,rfl,gd,T.cl,T.nS,(by omega),?_⟩;have l6:=fun od wd=>hJ "ends" (.bl false) (dM "outgoing" (.ref od) (dM "written" (.ref wd) (dM "state" (.ref st') (dM "happening" hv (dM "machine" m [])))));have l7:=fun rd od wd=>hJ "reckoned" (.ref rd) (dM "ends" (.bl false) (dM "outgoing" (.ref od) (dM "written" (.ref wd) (dM "state" (.ref st') (dM "happening" hv (dM "machine" m []))))));intro wd hwd;obtain ⟨nwd,hwd⟩:=gp hwd;refine ⟨_,rfl,d,CD,dx,_,rfl,(by rw [aK nwd.symm]; exact ag),T.cl,T.nW,(by omega),bH _,fun od hod=>?_⟩;obtain ⟨nod,hod⟩:=gp hod;obtain ⟨now_,hod⟩:=gp hod;obtain ⟨_,hod⟩:=gp hod;have l4':=l4 wd;have l5':=l5 od wd;have l6':=l6 od wd;refine ⟨_,rfl,d,CD,dx,_,rfl,(by rw [aK nod.symm]; exact ag),T.cl,T.nO,(by omega),?_⟩;refine ⟨_,rfl,d,CD,dx,_,rfl,ag,T.cl,T.nE,(by omega),bH _,fun rd hrd=>?_⟩;rw [AZ] at hrd |-;obtain ⟨nrd,hrd⟩:=gp hrd;obtain ⟨nro,hrd⟩:=gp hrd;obtain ⟨_,hrd⟩:=gp hrd;obtain ⟨nrw,hrd⟩:=gp hrd;obtain ⟨_,hrd⟩:=gp hrd;have l7':=l7 rd od wd;refine ⟨_,rfl,d,CD,dx,_,rfl,(by rw [aK nrd.symm]; exact ag),T.cl,T.nR,(by omega),?_⟩;intro ud hud;obtain ⟨nud,hud⟩:=gp hud;obtain ⟨nur,hud⟩:=gp hud;obtain ⟨_,hud⟩:=gp hud;obtain ⟨nuo,hud⟩:=gp hud;obtain ⟨_,hud⟩:=gp hud;obtain ⟨nuw,hud⟩:=gp hud;obtain ⟨_,hud⟩:=gp hud;refine ⟨_,rfl,d,CD,dx,_,rfl,(by rw [aK nud.symm]; exact ag),T.cl,T.nQ,(by omega),?_⟩;rw [Li];have frH:∀ {a:aa},G a=none->H0 a=none:=fun {a} z=>by
  cases y:H0 a with
  | none=>rfl
  | some o =>
   rw [N.sm _ _ (sd _ _ _ y)] at z
   cases z
 have fr0:∀ a∈st' :: bd :: qd :: qa.map (·.2),H0 a=none/\a≠d:=fun a ha=>by
  have z:=N.fr a ha;have n:a≠d:=fun y=>by
   rw [y,ag] at z
   cases z
  rw [aK n] at z;refine ⟨?_,n⟩
  cases y:H0 a with
  | none=>rfl
  | some o =>
   rw [s0 _ _ y] at z
   cases z
 have thG:∀ a∈st' :: bd :: qd :: qa.map (·.2),∃ o,G a=some o:=fun a ha=>by
  simp only [ay] at ha
  rcases ha with rfl | rfl | rfl | ha
  ·exact ⟨_,N.hst⟩
  ·exact ⟨_,N.hb⟩
  ·exact ⟨_,N.hq⟩
  ·obtain ⟨xs,e⟩:=N.hl.there ha;exact ⟨_,e⟩
 have i1:∀ {b:aa} {xs:List aa},b∈b :: xs:=aD;have i2:∀ {a b:aa} {xs:List aa},b∈xs->b∈a :: xs:=fun z=>ah _ z;refine k _ ⟨d,dx,st',dxs,bd,qd,wd,od,rd,ud,m,hv,qa⟩ rfl rfl ⟨fun b o e=>zj hwd hod hrd hud (N.sm _ _ (sd _ _ _ e)) (aG e nd0),ag,zj hwd hod hrd hud N.hst (fr0 _ i1).2,zj hwd hod hrd hud N.hb (fr0 _ (i2 i1)).2,zj hwd hod hrd hud N.hq (fr0 _ (i2 (i2 i1))).2,?_,?_,⟨[],?_,.nil⟩,⟨[],?_,.nil⟩,?_,hE,hM,?_,?_,ok,wt,wa,wb⟩
 ·exact gA.keep (L:=⟨0,0,0,0,0,0,0,0,0,0,.non,.non,qa⟩) (fun a u e m=>zj hwd hod hrd hud e (fr0 a (i2 (i2 (i2 m)))).2) (fun _ h=>h) N.hl
 ·show upd _ d _ wd=some (.dK []);rw [aK nwd,aK nuw.symm,aK nwd,aK nrw.symm,aK nwd,aK now_.symm,aK nwd,ag]
 ·show upd _ d _ od=some (.lst []);rw [aK nod,aK nuo.symm,aK nod,aK nro.symm,aK nod,ag]
 ·show upd _ d _ rd=some (.lst []);rw [aK nrd,aK nur.symm,aK nrd,ag]
 ·show upd _ d _ ud=some (.dK []);rw [aK nud,ag]
 ·have nd:=N.nd;have hn:∀ {a:aa} {xs:List aa},a∉xs->xs.Nodup->(a :: xs).Nodup:=fun p q=>cO.mpr ⟨p,q⟩;obtain ⟨n1,nd⟩:=cO.mp nd;obtain ⟨n2,nd⟩:=cO.mp nd;obtain ⟨n3,nd⟩:=cO.mp nd;simp only [ay,not_or] at n1 n2 n3;have wdn:∀ a∈st' :: bd :: qd :: qa.map (·.2),a≠wd:=fun a ha z=>by
   obtain ⟨o,y⟩:=thG a ha;rw [z,hwd] at y
   cases y
  have odn:∀ a∈st' :: bd :: qd :: qa.map (·.2),a≠od:=fun a ha z=>by
   obtain ⟨o,y⟩:=thG a ha;rw [z,hod] at y
   cases y
  have rdn:∀ a∈st' :: bd :: qd :: qa.map (·.2),a≠rd:=fun a ha z=>by
   obtain ⟨o,y⟩:=thG a ha;rw [z,hrd] at y
   cases y
  have udn:∀ a∈st' :: bd :: qd :: qa.map (·.2),a≠ud:=fun a ha z=>by
   obtain ⟨o,y⟩:=thG a ha;rw [z,hud] at y
   cases y
  show (d :: st' :: bd :: qd :: wd :: od :: rd :: ud :: qa.map (·.2)).Nodup;refine hn ?_ (hn ?_ (hn ?_ (hn ?_ (hn ?_ (hn ?_ (hn ?_ (hn ?_ nd)))))))
  ·simp only [ay,not_or];exact ⟨fun z=>(fr0 _ i1).2 z.symm,fun z=>(fr0 _ (i2 i1)).2 z.symm,fun z=>(fr0 _ (i2 (i2 i1))).2 z.symm,nwd.symm,nod.symm,nrd.symm,nud.symm,fun z=>(fr0 d (i2 (i2 (i2 z)))).2 rfl⟩
  ·simp only [ay,not_or];exact ⟨n1.1,n1.2.1,wdn _ i1,odn _ i1,rdn _ i1,udn _ i1,n1.2.2⟩
  ·simp only [ay,not_or];exact ⟨n2.1,wdn _ (i2 i1),odn _ (i2 i1),rdn _ (i2 i1),udn _ (i2 i1),n2.2⟩
  ·simp only [ay,not_or];exact ⟨wdn _ (i2 (i2 i1)),odn _ (i2 (i2 i1)),rdn _ (i2 (i2 i1)),udn _ (i2 (i2 i1)),n3⟩
  ·simp only [ay,not_or];exact ⟨now_.symm,nrw.symm,nuw.symm,fun z=>wdn wd (i2 (i2 (i2 z))) rfl⟩
  ·simp only [ay,not_or];exact ⟨nro.symm,nuo.symm,fun z=>odn od (i2 (i2 (i2 z))) rfl⟩
  ·simp only [ay,not_or];exact ⟨nur.symm,fun z=>rdn rd (i2 (i2 (i2 z))) rfl⟩
  ·exact fun z=>udn ud (i2 (i2 (i2 z))) rfl
 ·intro a ha;unfold Lay.all at ha;simp only [ay] at ha
  rcases ha with rfl | rfl | rfl | rfl | rfl | rfl | rfl | rfl | ha
  ·exact nd0
  ·exact (fr0 _ i1).1
  ·exact (fr0 _ (i2 i1)).1
  ·exact (fr0 _ (i2 (i2 i1))).1
  ·exact frH hwd
  ·exact frH hod
  ·exact frH hrd
  ·exact frH hud
  ·exact (fr0 a (i2 (i2 (i2 ha)))).1
inductive JP (bs qs:List Str) (vs:List V) (H:Hp) (Q:VK) (_e:XK):Prop where
 | mk (H0:Hp) (t hl:aa) (x0 x1 x2 x3:V) (hv:List V) (hs:List (Str×Ds)) (sg:Str) (_:vs=[.ref t,.str sg]) (_:bj H0 H) (_:H0 t=some (.tup [x0,x1,x2,x3,.ref hl])) (_:H0 hl=some (.lst hv)) (_:aI (C2 bs qs H0) hv hs) (_:(∀ u,lR H0 (eZ bs qs H0 (jE hs sg)) u->Q u H)) (_:∀ l,H l=none->jE hs sg=.nil->Q (.ref l) (upd H l (.lst []))):JP bs qs vs H Q _e
def Lr (bs qs:List Str):Sp:=fun vs H Q _e=>JP bs qs vs H Q _e
theorem scBy:cv ["machine","sign","heard"] ["machine","sign"] (aQ ia):={}
theorem mX {α β:Type} {R:α->β->Prop}:∀ {xs:List α} {ys:List β} {i:Nat} {x:α},aI R xs ys->xs[i]?=some x->∃ y,ys[i]?=some y/\R x y
 | _,_,i,x,.nil,h=>by simp at h
 | _,_,0,x,.cons a b,h=>by
  simp at h;subst h;exact ⟨_,rfl,a⟩
 | _,_,i + 1,x,.cons a b,h=>by
  obtain ⟨y,h1,h2⟩:=mX (i:=i) (x:=x) b (by simpa using h);exact ⟨y,by simpa using h1,h2⟩
theorem ok_by (D:Df K mg "deeds_by_sign" ia ["machine","sign"] f fd):cm P w K mg base CX0 1 f fd ["machine","sign"] (Lr bs qs):=by
 refine D.F.ok scBy (fun vs H Q E h=>?_) (fun cdv A outer s H vs Q E hr h=>?_)
 ·obtain ⟨H0,t,hl,x0,x1,x2,x3,hv,hs,sg,rfl,_⟩:=h;rfl
 obtain ⟨H0,t,hl,x0,x1,x2,x3,hv,hs,sg,rfl,sm,ht,hh,pr,k1,k2⟩:=h;have ht:=sm _ _ ht;have hh:=sm _ _ hh;refine ⟨_,ak (jy dy rfl (i0 (bT cL (pv 0) aw (fun _ _=>rfl))) (cP (i:=2) scBy.nd rfl (Or.inl rfl)) (aF (cS (bM eG (bT cL (pv 2) aw (fun _ _=>rfl)) (pv 1) (cj _)) (aF (bQ (bT cL (pv 2) aw (fun _ _=>rfl)))) cq)))
  (aF (bQ (dh ao))),?_⟩
 refine ⟨_,rfl,t,_,_,_,rfl,rfl,SqT.of ht,rfl,hl,rfl,⟨_,SqL.of hh⟩,kM (K:=K) (a:=hl) (xs:=hv) (fun i σ G=>G=H/\(∃ u,σ=[some (.ref t),some (.str sg),u])/\jE hs sg=jE (hs.drop i) sg) ⟨rfl,⟨_,rfl⟩,by rw [lO]⟩ ?_ ?_ ?_⟩
 ·rintro i σ G _ ⟨rfl,_⟩;exact SqL.of hh
 ·rintro i x σ G hi ⟨rfl,⟨u,rfl⟩,e⟩;obtain ⟨p,hp,t',u',rfl,ht',hl'⟩:=mX pr hi;have ht':=sm _ _ ht';have lt:i < hs.length:=(aC.mp hp).1;have hx:hs[i]=p:=(aC.mp hp).2;rw [mj lt,hx] at e;obtain ⟨pn,pd⟩:=p;refine ⟨_,rfl,t',_,_,_,rfl,rfl,SqT.of ht',rfl,_,rfl,rfl,_,rfl,?_⟩
  by_cases c:pn=sg
  ·subst c;refine mU (CV _) (iF ?_);refine ⟨_,rfl,t',_,_,_,rfl,rfl,SqT.of ht',rfl,k1 u' ?_⟩;rw [e];unfold jE;rw [bO];exact hl'
  ·refine mU (uk c) (gi ?_);refine ⟨rfl,⟨_,rfl⟩,?_⟩;rw [e];unfold jE;rw [cD,beq_eq_false_iff_ne.mpr (fun z=>c z.symm)]
 ·rintro σ G ⟨rfl,⟨u,rfl⟩,e⟩;have ln:=aX pr;rw [ln,Hh] at e;exact ⟨bH _,fun l hl'=>k2 l hl' e⟩
end
structure vk (bs qs:List Str) (ds:List Int) (hs:List (Str×Ds)) (H:Hp) (m:V):Prop where
 ex:∃ (t bl ql dl hl:aa) (nm:V) (vb hv:List V),m=.ref t/\H t=some (.tup [nm,.ref bl,.ref ql,.ref dl,.ref hl])/\H bl=some (.lst vb)/\aI (fun v (x:Str)=>∃ a n,v=.ref a/\H a=some (.tup [.str x,n])) vb bs/\H ql=some (.lst (qs.map V.str))/\H dl=some (.lst (ds.map V.int))/\H hl=some (.lst hv)/\aI (C2 bs qs H) hv hs
theorem vk.same {bs qs:List Str} {ds:List Int} {hs:List (Str×Ds)} {H H':Hp} (s:bj H H') {m:V} (h:vk bs qs ds hs H m):vk bs qs ds hs H' m:=by
 obtain ⟨t,bl,ql,dl,hl,nm,vb,hv,e,h1,h2,h3,h4,h5,h6,h7⟩:=h;exact ⟨t,bl,ql,dl,hl,nm,vb,hv,e,s _ _ h1,s _ _ h2,Paired.mono (fun v x z=>by
  obtain ⟨a,n,e,y⟩:=z;exact ⟨a,n,e,s _ _ y⟩) h3,s _ _ h4,s _ _ h5,s _ _ h6,Paired.mono (fun _ _ z=>z.same s) h7⟩
def wrB (bs:List Str) (w:Wk):List (Str×Int):=(bs.filter fun x=>decide (x∈w.wr)).map fun x=>(x,vi w.bx x)
def wrQ (qs:List Str) (w:Wk):List (Str×List Int):=(qs.filter fun x=>decide (x∈w.wr)).map fun x=>(x,iZ w.qu x)
def vm (G:Hp) (v:V) (p:Str×Int):Prop:=∃ t,v=.ref t/\G t=some (.tup [.str p.1,.int p.2])
def Ax (G:Hp) (v:V) (p:Str×aa):Prop:=∃ t,v=.ref t/\G t=some (.tup [.str p.1,.ref p.2])
theorem vm.keep {G G':Hp} (k:∀ a xs,G a=some (.tup xs)->G' a=some (.tup xs)) {v:V} {p:Str×Int} (h:vm G v p):vm G' v p:=by
 obtain ⟨t,e,h1⟩:=h;exact ⟨t,e,k _ _ h1⟩
theorem Ax.keep {G G':Hp} (k:∀ a xs,G a=some (.tup xs)->G' a=some (.tup xs)) {v:V} {p:Str×aa} (h:Ax G v p):Ax G' v p:=by
 obtain ⟨t,e,h1⟩:=h;exact ⟨t,e,k _ _ h1⟩
structure WrIn (bs qs:List Str) (w:Wk) (H G:Hp) (wl:aa) (ws1 ws2:List V) (qa:List (Str×aa)):Prop where
 hl:G wl=some (.lst (ws1++ws2))
 b:aI (vm G) ws1 (wrB bs w)
 q:aI (Ax G) ws2 qa
 l:gA G qa (wrQ qs w)
 nd:(wl :: qa.map (·.2)).Nodup
 fr:∀ a∈wl :: qa.map (·.2),H a=none
theorem tZ {p:Str->Bool} {xs:List Str} {i:Nat} {x:Str} (h:xs[i]?=some x):(xs.take (i + 1)).filter p=(xs.take i).filter p++if p x=true then [x] else []:=by
 rw [gm,h,List.filter_append];show _++[x].filter p=_
 by_cases c:p x=true
 ·rw [if_pos c,List.filter_cons_of_pos c];rfl
 ·rw [if_neg c,List.filter_cons_of_neg c];rfl
theorem vn {H G:Hp} {a:aa} (s:bj H G) (n:H a=none) (o:HO):bj H (upd G a o):=fun b u e=>by
 rw [aK (aG e n)];exact s _ _ e
theorem none_of {H G:Hp} (s:bj H G) {a:aa} (n:G a=none):H a=none:=by
 cases z:H a with
 | none=>rfl
 | some o =>
  rw [s _ _ z] at n
  cases n
section
variable {P:aL} {w:bN} {K:ae} {mg:Str->Option af} {base:cF} {f CD CS CM:aa} {fd:cw} {bs qs:List Str}
inductive JQ (CD CS:aa) (bs qs:List Str) (vs:List V) (H:Hp) (Q:VK) (_e:XK):Prop where
 | mk (H0:Hp) (L:Lay) (h:Ev) (ds:List Int) (w:Wk) (hs:List (Str×Ds)) (_:vs=[.ref L.d]) (_:Dg CD CS bs qs H0 H L h ds w) (_:vk bs qs ds hs H0 L.m) (_:∀ (G:Hp) (wl:aa) (ws1 ws2:List V) (qa:List (Str×aa)),bj H G->WrIn bs qs w H G wl ws1 ws2 qa->Q (.ref wl) G):JQ CD CS bs qs vs H Q _e
def spWr (CD CS:aa) (bs qs:List Str):Sp:=fun vs H Q _e=>JQ CD CS bs qs vs H Q _e
theorem IF:cv ["doing","writes","box","name"] ["doing"] (aQ lP):={}
theorem C3 (D:Df K mg "writes_of" lP ["doing"] f fd) (T:DT K mg CD) (TM:MdT K mg CM CS) (B:Bl mg):cm P w K mg base CX0 1 f fd ["doing"] (spWr CD CS bs qs):=by
 refine D.F.ok IF (fun vs H Q E h=>?_) (fun cdv A outer s H vs Q E hr h=>?_)
 ·obtain ⟨H0,L,h,ds,w,hs,rfl,_⟩:=h;rfl
 obtain ⟨H0,L,h,ds,w,hs,rfl,g,⟨t,bl,ql,dl,hl,nm,vb,hv,em,ht,hbl,pb,hql,hdl,hhl,_⟩,k⟩:=h;have hu:=qx hr;refine ⟨_,ak (aZ (i:=1) IF.nd rfl (Or.inl rfl) (dh ao))
  (ak (jy dy rfl (i0 (bT cL (cW (pv 0) rfl) aw (fun _ _=>rfl))) (cP (i:=2) IF.nd rfl (Or.inl rfl)) (aF (cS (uO (EH hu (bT cL (pv 2) aw (fun _ _=>rfl)) (cW (pv 0) rfl)))
   (aF (eK (kQ cy cJ cK gN (pv 1) (av (cR (av (bT cL (pv 2) aw (fun _ _=>rfl)) (av (rp hu (cW (cW (pv 0) rfl) rfl) (bT cL (pv 2) aw (fun _ _=>rfl)) (fun _ _=>rfl)) ao))) ao)))) cq)))
  (ak (jy dy rfl (i0 (bT cL (cW (pv 0) rfl) aw (fun _ _=>rfl))) (cP (i:=3) IF.nd rfl (Or.inl rfl)) (aF (cS (uO (EH hu (pv 3) (cW (pv 0) rfl)))
   (aF (eK (kQ cy cJ cK gN (pv 1) (av (cR (av (pv 3) (av (iM rj (by rfl) B.list boot_list (av (rp hu (cW (cW (pv 0) rfl) rfl) (pv 3) (fun _ _=>rfl)) ao)) ao))) ao)))) cq)))
  (aF (bQ (pv 1))))),?_⟩
 have big:=fq;have fw:=g.ok.fw;rw [ax] at fw;refine ⟨bH _,fun wl hwl=>?_⟩;have s0:=aA hwl (.lst []);have inW:∀ {G:Hp} (g:Dg CD CS bs qs H0 G L h ds w) (x:Str),rm G L.wd (.str x) (if x∈w.wr then some (.bl true) else none):=fun {G} g x=>by
  have z:=rm.k (k:=Sum.inr x) g.hw;rw [Bs] at z;exact z
 refine ⟨_,rfl,L.d,CD,L.dx,_,_,rfl,s0 _ _ g.hd,T.cl,T.nM,Lh _ _ _ _ _ _ _ _,t,_,_,_,em,rfl,SqT.of (s0 _ _ (g.sm _ _ ht)),rfl,bl,rfl,⟨_,SqL.of (s0 _ _ (g.sm _ _ hbl))⟩,?_⟩;refine kM (K:=K) (a:=bl) (xs:=vb) (fun i σ G=>∃ (u:Option V) (ws:List V),σ=[some (.ref L.d),some (.ref wl),u,none]/\bj H G/\G wl=some (.lst ws)/\aI (vm G) ws (((bs.take i).filter fun x=>decide (x∈w.wr)).map fun x=>(x,vi w.bx x))) ⟨none,[],rfl,s0,ag,by rw [lU]; exact .nil⟩ ?_ ?_ ?_
 ·rintro i σ G _ ⟨_,_,rfl,sm,_⟩;exact SqL.of (sm _ _ (g.sm _ _ hbl))
 ·rintro i x σ G hi ⟨u,ws,rfl,sm,gw,pw⟩;have g1:=g.same sm;obtain ⟨y,hy,a,n,rfl,ha⟩:=mX pb hi;have ha:=g1.sm _ _ ha;have my:y∈bs:=bX hy;have ft:=tZ (p:=fun x=>decide (x∈w.wr)) hy;refine ⟨_,rfl,a,_,_,_,rfl,rfl,SqT.of ha,rfl,_,rfl,L.d,CD,L.dx,_,_,rfl,g1.hd,T.cl,T.nW,Fq _ _ _ _ _ _ _ _,L.wd,_,rfl,inW g1 y,_,rfl,?_⟩
  by_cases c:y∈w.wr
  ·rw [if_pos c];rw [if_pos (decide_eq_true c)] at ft;refine iF ?_;refine ⟨_,rfl,.inl ⟨rfl,_,SqL.of gw⟩,_,rfl,a,_,_,_,rfl,rfl,SqT.of ha,rfl,_,rfl,L.d,CD,L.dx,_,_,rfl,g1.hd,T.cl,T.nS,vW _ _ _ _ _ _ _ _,L.st,CS,L.dxs,_,_,rfl,g1.hst,TM.clS,TM.nB,Il _ _ _ _,_,rfl,a,_,_,_,rfl,rfl,SqT.of ha,rfl,L.bd,_,rfl,(by have z:=rm.k (k:=Sum.inr y) g1.hb; rw [Fu (by rw [g1.ok.kb]; exact my)] at z; exact z),lt2,fun tt htt=>?_⟩;have st_:=aA htt (.tup [.str y,.int (vi w.bx y)]);have lw:=aX pw;have lf:(((bs.take i).filter fun x=>decide (x∈w.wr)).map fun x=>(x,vi w.bx x)).length<=bs.length:=by
    rw [ai];refine dH (iA _ _) ?_;rw [aT];omega
   refine ⟨wl,ws,_,rfl,rfl,st_ _ _ gw,(by omega),_,_,rfl,vn (sm.trans st_) hwl _,ag,?_⟩;rw [ft,bV];have kp:∀ b xs,upd G tt (.tup [.str y,.int (vi w.bx y)]) b=some (.tup xs)->upd (upd G tt (.tup [.str y,.int (vi w.bx y)])) wl (.lst (ws++[.ref tt])) b=some (.tup xs):=fun b xs z=>bz z (mr z (st_ _ _ gw) (by intro q; cases q));exact eS (Paired.mono (fun _ _ z=>(z.keep fun b xs e=>st_ _ _ e).keep kp) pw) ⟨tt,rfl,kp _ _ ag⟩
  ·rw [if_neg c];rw [if_neg (by rw [decide_eq_false c]; decide),dE] at ft;refine gi ⟨_,ws,rfl,sm,gw,?_⟩;rw [ft];exact pw
 rintro σ G ⟨u,ws1,rfl,sm,gw,pw⟩;have g1:=g.same sm;have ev1:vb.length=bs.length:=aX pb;rw [ev1,dQ] at pw;refine ⟨_,rfl,L.d,CD,L.dx,_,_,rfl,g1.hd,T.cl,T.nM,Lh _ _ _ _ _ _ _ _,t,_,_,_,em,rfl,SqT.of (g1.sm _ _ ht),rfl,ql,rfl,⟨_,SqL.of (g1.sm _ _ hql)⟩,?_⟩;refine kM (K:=K) (a:=ql) (xs:=qs.map V.str) (fun i σ G=>∃ (u v:Option V) (ws2:List V) (qa:List (Str×aa)),σ=[some (.ref L.d),some (.ref wl),u,v]/\bj H G/\G wl=some (.lst (ws1++ws2))/\aI (vm G) ws1 (wrB bs w)/\aI (Ax G) ws2 qa /\
  gA G qa (((qs.take i).filter fun x=>decide (x∈w.wr)).map fun x=>(x,iZ w.qu x))/\(wl :: qa.map (·.2)).Nodup/\∀ a∈wl :: qa.map (·.2),H a=none) ⟨_,_,[],[],rfl,sm,by rw [dE]; exact gw,pw,.nil,by rw [lU]; exact .nil,by simp,fun a ha=>by rw [aH.mp ha]; exact hwl⟩ ?_ ?_ ?_
 ·rintro i σ G _ ⟨_,_,_,_,rfl,sm,_⟩;exact SqL.of (sm _ _ (g.sm _ _ hql))
 ·rintro i x σ G hi ⟨u,v,ws2,qa,rfl,sm,gw,pw,pq,pl,nd,fr⟩;have g1:=g.same sm;obtain ⟨y,hy,rfl⟩:∃ y,qs[i]?=some y/\x=.str y:=by
   rw [bS] at hi
   cases z:qs[i]? with
   | none =>
    rw [z] at hi
    cases hi
   | some y =>
    rw [z] at hi
    cases hi;exact ⟨y,rfl,rfl⟩
  have my:y∈qs:=bX hy;have ft:=tZ (p:=fun x=>decide (x∈w.wr)) hy;refine ⟨_,rfl,_,rfl,L.d,CD,L.dx,_,_,rfl,g1.hd,T.cl,T.nW,Fq _ _ _ _ _ _ _ _,L.wd,_,rfl,inW g1 y,_,rfl,?_⟩
  by_cases c:y∈w.wr
  ·rw [if_pos c];rw [if_pos (decide_eq_true c)] at ft;refine iF ?_;obtain ⟨l,h1,h2,h3⟩:=g1.getL my;refine ⟨_,rfl,.inl ⟨rfl,_,SqL.of gw⟩,_,rfl,_,rfl,L.d,CD,L.dx,_,_,rfl,g1.hd,T.cl,T.nS,vW _ _ _ _ _ _ _ _,L.st,CS,L.dxs,_,_,rfl,g1.hst,TM.clS,TM.nQ,Im _ _ _ _,_,rfl,L.qd,_,rfl,h3,l,_,rfl,.inl (SqL.of h2),fun nl hnl=>?_⟩;have sn:=aA hnl (.lst ((iZ w.qu y).map V.int));refine ⟨lt2,fun tt htt=>?_⟩;have st_:=aA htt (.tup [.str y,.ref nl]);have lw:=aX pq;have lb:=aX pw;have lq:=aX pl;have lf:(((qs.take i).filter fun x=>decide (x∈w.wr)).map fun x=>(x,iZ w.qu x)).length<=qs.length:=by
    rw [ai];refine dH (iA _ _) ?_;rw [aT];omega
   have lf2:(wrB bs w).length<=bs.length:=by
    unfold wrB;rw [ai];exact iA _ _
   have gw':=st_ _ _ (sn _ _ gw);have nlw:nl≠wl:=(aG gw hnl).symm;have kp:∀ b xs,upd (upd G nl (.lst ((iZ w.qu y).map V.int))) tt (.tup [.str y,.ref nl]) b=some (.tup xs)->upd (upd (upd G nl (.lst ((iZ w.qu y).map V.int))) tt (.tup [.str y,.ref nl])) wl (.lst (ws1++ws2++[.ref tt])) b=some (.tup xs):=fun b xs z=>bz z (mr z gw' (by intro q; cases q));refine ⟨wl,_,_,rfl,rfl,gw',(by rw [ax]; omega),_,_,ws2++[.ref tt],qa++[(y,nl)],rfl,vn ((sm.trans sn).trans st_) hwl _,(by rw [<- gY]; exact ag),?_,?_,?_,?_,?_⟩
   ·exact Paired.mono (fun _ _ z=>(z.keep fun b xs e=>st_ _ _ (sn _ _ e)).keep kp) pw
   ·exact eS (Paired.mono (fun _ _ z=>(z.keep fun b xs e=>st_ _ _ (sn _ _ e)).keep kp) pq) ⟨tt,rfl,kp _ _ ag⟩
   ·rw [ft,bV];refine eS (gA.keep (L:=⟨0,0,0,0,0,0,0,0,0,0,.non,.non,qa⟩) (fun a u e m=>bz (st_ _ _ (sn _ _ e)) fun z=>?_) (fun _ h=>h) pl) ⟨rfl,bz (st_ _ _ ag) nlw⟩;rw [z] at m;exact (cO.mp nd).1 m
   ·rw [bV,<- Hi];refine iI.mpr ⟨nd,by simp,fun a ha b hb=>?_⟩;rw [aH.mp hb];intro z
    rcases ay.mp ha with q | q
    ·exact nlw ((show a=nl from z).symm.trans q)
    ·obtain ⟨xs,q⟩:=pl.there q;rw [show a=nl from z,hnl] at q
     cases q
   ·intro a ha;rw [bV,<- Hi] at ha
    rcases bU.mp ha with z | z
    ·exact fr a z
    ·rw [aH.mp z];exact none_of sm hnl
  ·rw [if_neg c];rw [if_neg (by rw [decide_eq_false c]; decide),dE] at ft;refine gi ⟨_,_,ws2,qa,rfl,sm,gw,pw,pq,?_,nd,fr⟩;rw [ft];exact pl
 rintro σ G ⟨u,v,ws2,qa,rfl,sm,gw,pw,pq,pl,nd,fr⟩;rw [ai,dQ] at pl;exact ⟨_,rfl,k G wl ws1 ws2 qa sm ⟨gw,pw,pq,pl,nd,fr⟩⟩
end
structure FJ (CD CS:aa) (bs qs:List Str) (H G:Hp) (L:Lay) (h:Ev) (ds:List Int) (w:Wk) (t rc wl:aa) (ws1 ws2:List V) (qa:List (Str×aa)):Prop where
 dg:∃ H0,bj H H0/\Dg CD CS bs qs H0 G L h ds w
 ht:G t=some (.tup [.ref L.st,.ref rc,.bl w.en])
 hrc:∃ k,G rc=some (.tup [.ref k,.int h.to,.str h.sg,.int h.a,.int h.b,.ref wl,.ref L.od])/\H k=some (.tup [.int h.t,.int h.r,.int h.fr,.int h.c])
 wr:WrIn bs qs w H G wl ws1 ws2 qa
 nd:(L.all++wl :: qa.map (·.2)).Nodup
theorem FJ.sm {CD CS:aa} {bs qs:List Str} {H G:Hp} {L:Lay} {h:Ev} {ds:List Int} {w:Wk} {t rc wl:aa} {ws1 ws2:List V} {qa:List (Str×aa)} (n:FJ CD CS bs qs H G L h ds w t rc wl ws1 ws2 qa):bj H G:=by
 obtain ⟨H0,s,g⟩:=n.dg;exact s.trans g.sm
def w0 (bx:List (Str×Int)) (qu:List (Str×List Int)) (dr:Nat) (se:Int):Wk:=⟨bx,qu,dr,se,[],[],false,[],[]⟩
section
variable {P:aL} {w:bN} {K:ae} {mg:Str->Option af} {base:cF} {f fI fS fB fW fO CD CS CM:aa} {fd fdI fdS fdB fdW fdO:cw} {bs qs:List Str} {cf:Flt->aa}
inductive BE (cf:Flt->aa) (CM CD CS:aa) (bs qs:List Str) (n:Nat) (vs:List V) (H:Hp) (Q:VK) (E:XK):Prop where
 | mk (m dxm ml st:aa) (fs:List (Str×V)) (ms:List V) (hv mv:V) (h:Ev) (ds:List Int) (hs:List (Str×Ds)) (bx:List (Str×Int)) (qu:List (Str×List Int)) (dr:Nat) (se:Int) (_:vs=[.ref m,.ref st,hv]) (_:H m=some (.ins CM dxm fs)) (_:fs.lookup ("machines":Str)=some (.ref ml)) (_:H ml=some (.lst ms)) (_:gK H hv h) (_:atI ms h.to=some mv) (_:vk bs qs ds hs H mv) (_:mh CS H st bx qu dr se) (_:qq bs qs (w0 bx qu dr se)) (_:Wo h.t) (_:Wo h.a) (_:Wo h.b) (_:(jE hs h.sg).deep < n) (_:(jE hs h.sg).size < 100000) (_:match doS h ds (jE hs h.sg) (w0 bx qu dr se) with
 | .ok w'=>∀ (G:Hp) (L:Lay) (t rc wl:aa) (ws1 ws2:List V) (qa:List (Str×aa)),FJ CD CS bs qs H G L h ds w' t rc wl ws1 ws2 qa->Q (.ref t) G
 | .error e=>∀ G,bj H G->E (.ref (cf e)) none G):BE cf CM CD CS bs qs n vs H Q E
def FK (cf:Flt->aa) (CM CD CS:aa) (bs qs:List Str) (n:Nat):Sp:=fun vs H Q E=>BE cf CM CD CS bs qs n vs H Q E
theorem by_go {CD CS:aa} {bs qs:List Str} {H G:Hp} {L:Lay} {h:Ev} {ds:List Int} {w:Wk} {tm hl:aa} {x0 x1 x2 x3:V} {hvs:List V} {hs:List (Str×Ds)} {sg:Str} {Q1:VK} {E:XK} (g:Dg CD CS bs qs H G L h ds w) (htm:H tm=some (.tup [x0,x1,x2,x3,.ref hl])) (hhl:H hl=some (.lst hvs)) (ph:aI (C2 bs qs H) hvs hs)
  (k:∀ (H0 G1:Hp) (u:V),bj H H0->bj G G1->Dg CD CS bs qs H0 G1 L h ds w->lR H0 (eZ bs qs H0 (jE hs sg)) u->Q1 u G1):Lr bs qs [.ref tm,.str sg] G Q1 E:=by
 refine ⟨H,tm,hl,_,_,_,_,hvs,hs,sg,rfl,g.sm,htm,hhl,ph,fun u hu=>k H G u (bj.refl _) (bj.refl _) g hu,fun l hl' e=>?_⟩;have sl:=aA hl' (.lst []);have nl:=none_of g.sm hl';have s0:=aA nl (.lst []);have s1:bj (upd H l (.lst [])) (upd G l (.lst [])):=fun b o z=>by
  by_cases c:b=l
  ·rw [c] at z |-;rw [ag] at z |-;exact z
  ·rw [aK c] at z |-;exact g.sm _ _ z
 refine k _ _ _ s0 sl (g.base sl s0 s1 fun a ha=>?_) ⟨l,[],rfl,ag,by show 0 < 1000; decide,?_⟩
 ·obtain ⟨o,z⟩:=g.there a ha;rw [aK (aG z hl')];exact g.fr a ha
 ·rw [e];simp only [eZ]
inductive FL (cf:Flt->aa) (CM CD CS:aa) (bs qs:List Str) (n:Nat) (vs:List V) (H:Hp) (Q:VK) (E:XK):Prop where
 | mk (m dxm ml st:aa) (fs:List (Str×V)) (ms:List V) (hv mv:V) (h:Ev) (ds:List Int) (hs:List (Str×Ds)) (bx:List (Str×Int)) (qu:List (Str×List Int)) (dr:Nat) (se:Int) (_:vs=[.ref m,.ref st,hv]) (_:H m=some (.ins CM dxm fs)) (_:fs.lookup ("machines":Str)=some (.ref ml)) (_:H ml=some (.lst ms)) (_:gK H hv h) (_:atI ms h.to=some mv) (_:vk bs qs ds hs H mv) (_:mh CS H st bx qu dr se) (_:qq bs qs (w0 bx qu dr se)) (_:Wo h.t) (_:Wo h.a) (_:Wo h.b) (_:(jE hs h.sg).deep < n) (_:(jE hs h.sg).size < 100000) (_:match doS h ds (jE hs h.sg) (w0 bx qu dr se) with
 | .ok w'=>∀ (H0 G:Hp) (L:Lay),bj H H0->Dg CD CS bs qs H0 G L h ds w'->L.m=mv->Q (.ref L.d) G
 | .error e=>∀ G,bj H G->E (.ref (cf e)) none G):FL cf CM CD CS bs qs n vs H Q E
def JR (cf:Flt->aa) (CM CD CS:aa) (bs qs:List Str) (n:Nat):Sp:=fun vs H Q E=>FL cf CM CD CS bs qs n vs H Q E
theorem Ls:cv ["model","state","happening","machine","doing"] ["model","state","happening"] (aQ nU):={}
theorem Lu {n:Nat} (D:Df K mg "doing_of" nU ["model","state","happening"] f fd) (MD:Mk K CD fI) (bI:Binds K fdI ["self","machine","state","happening"] []) (GI:cm P w K mg base CX0 4 fI fdI ["self","machine","state","happening"] (Lq CD CS bs qs))
  (DS:Df K mg "do_deeds" iH ["doing","deeds"] fS fdS) (GS:cm P w K mg base (CXo P w) (20 + 3 * n) fS fdS ["doing","deeds"] (vj cf CD CS bs qs n)) (DB:Df K mg "deeds_by_sign" ia ["machine","sign"] fB fdB) (T:DT K mg CD) (TM:MdT K mg CM CS) :
  cm P w K mg base (CXo P w) (20 + 3 * n + 1) f fd ["model","state","happening"] (JR cf CM CD CS bs qs n):=by
 have GB:cm P w K mg base CX0 1 fB fdB ["machine","sign"] (Lr bs qs):=ok_by DB;refine D.F.okX Ls (fun vs H Q E h=>?_) (fun cdv A outer s H vs Q E hr h=>?_)
 ·obtain ⟨m,dxm,ml,st,fs,ms,hv,mv,h,ds,hs,bx,qu,dr,se,rfl,_⟩:=h;rfl
 obtain ⟨m,dxm,ml,st,fs,ms,hv,mv,h,ds,hs,bx,qu,dr,se,rfl,hm,hfs,hml,hE,hmv,hM,hS,ok,wt,wa,wb,dn,sz,p⟩:=h;have r1:d5 1 _:=hr.mono (by omega);have r5:d5 5 _:=hr.mono (by omega);refine ⟨_,ak (aZ (i:=3) Ls.nd rfl (Or.inl rfl) (bT cV (cW (pv 0) rfl) (bT cL (pv 2) aw (fun _ _=>rfl)) (fun _ _=>rfl)))
  (ak (aZ (i:=4) Ls.nd rfl (Or.inl rfl) (pU MD GI r5 (by rfl) T.mD bI .nil bY (av (pv 3) (av (pv 1) (av (pv 2) ao)))))
  (ak (eK (aO GS hr (by rfl) DS.m DS.F.kp DS.b .nil (d6.passes fun _ _ _ z=>z) (av (pv 4) (av (aO GB r1 (by rfl) DB.m DB.F.kp DB.b .nil bY (av (pv 3) (av (bT cL (pv 2) aw (fun _ _=>rfl)) ao))) ao))))
  (aF (bQ (pv 4))))),?_⟩
 obtain ⟨th,kh,rfl,hth,hkh⟩:=id hE;obtain ⟨tm,bl,ql,dl,hl,nm,vb,hvs,rfl,htm,hbl,pb,hql,hdl,hhl,ph⟩:=hM.ex;refine ⟨_,rfl,m,CM,dxm,_,_,rfl,hm,TM.clM,TM.nM,hfs,_,rfl,th,_,_,_,rfl,rfl,SqT.of hth,rfl,ml,_,_,_,rfl,rfl,SqL.of hml,hmv,?_⟩;refine ⟨_,rfl,_,rfl,_,rfl,?_⟩;intro d dx nd_ ndx nne;have sA:bj H (upd (upd H dx (.own d)) d (.ins CD dx [])):=fun b o e=>by
  rw [aK (aG e nd_),aK (aG e ndx)];exact e
 refine ⟨H,d,dx,st,.ref tm,.ref th,h,ds,bx,qu,dr,se,rfl,ag,nd_,sA,hS,hE,⟨tm,_,_,_,_,dl,rfl,htm,hdl⟩,ok,wt,wa,wb,fun G L eL em g=>⟨rfl,?_⟩⟩;have gth:=g.sm _ _ hth;refine ⟨_,rfl,_,rfl,_,rfl,th,_,_,_,rfl,rfl,SqT.of gth,rfl,?_⟩;subst eL;refine by_go (E:=E0) g htm hhl ph fun H0 G1 u s0 s1 g1 hu=>?_;refine ⟨H0,L,h,ds,w0 bx qu dr se,u,jE hs h.sg,rfl,g1,hu,dn,(by show 0 + _ < _; omega),?_⟩;have mid:∀ {dg:Wk->Hp->Prop} {r:Except Flt Wk} {Q1:VK} {k:Nat},r=doS h ds (jE hs h.sg) (w0 bx qu dr se)->(∀ w' G2,r=.ok w'->dg w' G2->Q1 .non G2)->tf cf dg H0 k r Q1 E:=fun {dg r Q1 k} e q=>by
  cases r with
  | ok w'=>exact fun G2 g2 _=>q w' G2 rfl g2
  | error er =>
   rw [<- e] at p;exact fun G2 s2=>p G2 (s0.trans s2)
 refine mid rfl fun w' G2 ew g2=>?_;rw [ew] at p;exact ⟨_,rfl,p H0 G2 L s0 g2 em⟩
theorem Lv:cv ["model","state","happening","doing","record"] ["model","state","happening"] (aQ xV):={}
theorem IG {n:Nat} (D:Df K mg "done" xV ["model","state","happening"] f fd) (DO:Df K mg "doing_of" nU ["model","state","happening"] fO fdO) (MD:Mk K CD fI) (bI:Binds K fdI ["self","machine","state","happening"] []) (GI:cm P w K mg base CX0 4 fI fdI ["self","machine","state","happening"] (Lq CD CS bs qs))
  (DS:Df K mg "do_deeds" iH ["doing","deeds"] fS fdS) (GS:cm P w K mg base (CXo P w) (20 + 3 * n) fS fdS ["doing","deeds"] (vj cf CD CS bs qs n)) (DB:Df K mg "deeds_by_sign" ia ["machine","sign"] fB fdB) (DW:Df K mg "writes_of" lP ["doing"] fW fdW) (T:DT K mg CD) (TM:MdT K mg CM CS) (B:Bl mg) :
  cm P w K mg base (CXo P w) (20 + 3 * n + 2) f fd ["model","state","happening"] (FK cf CM CD CS bs qs n):=by
 have GO:cm P w K mg base (CXo P w) (20 + 3 * n + 1) fO fdO ["model","state","happening"] (JR cf CM CD CS bs qs n):=Lu DO MD bI GI DS GS DB T TM;have GW:cm P w K mg base CX0 1 fW fdW ["doing"] (spWr CD CS bs qs):=C3 DW T TM B;refine D.F.okX Lv (fun vs H Q E h=>?_) (fun cdv A outer s H vs Q E hr h=>?_)
 ·obtain ⟨m,dxm,ml,st,fs,ms,hv,mv,h,ds,hs,bx,qu,dr,se,rfl,_⟩:=h;rfl
 obtain ⟨m,dxm,ml,st,fs,ms,hv,mv,h,ds,hs,bx,qu,dr,se,rfl,hm,hfs,hml,hE,hmv,hM,hS,ok,wt,wa,wb,dn,sz,p⟩:=h;have r1:d5 1 _:=hr.mono (by omega);refine ⟨_,ak (aZ (i:=3) Lv.nd rfl (Or.inl rfl) (aO GO hr (by rfl) DO.m DO.F.kp DO.b .nil (d6.passes fun _ _ _ z=>z) (av (pv 0) (av (pv 1) (av (pv 2) ao)))))
  (ak (aZ (i:=4) Lv.nd rfl (Or.inl rfl) (cC pX (pv 2) (cR (av (aO GW r1 (by rfl) DW.m DW.F.kp DW.b .nil bY (av (pv 3) ao)) (av (cW (pv 3) rfl) ao)))))
  (aF (bQ (cR (av (cW (pv 3) rfl) (av (pv 4) (av (cW (pv 3) rfl) ao))))))),?_⟩
 obtain ⟨th,kh,rfl,hth,hkh⟩:=id hE;refine ⟨_,rfl,_,rfl,_,rfl,m,dxm,ml,st,fs,ms,_,mv,h,ds,hs,bx,qu,dr,se,rfl,hm,hfs,hml,hE,hmv,hM,hS,ok,wt,wa,wb,dn,sz,?_⟩
 cases ew:doS h ds (jE hs h.sg) (w0 bx qu dr se) with
 | error e =>
  rw [ew] at p;exact p
 | ok w' =>
 rw [ew] at p;intro H0 G2 L s0 g2 em;have hth2:=g2.sm _ _ (s0 _ _ hth);have gM:vk bs qs ds hs H0 L.m:=by
  rw [em];exact hM.same s0
 refine ⟨_,rfl,_,rfl,H0,L,h,ds,w',hs,rfl,g2,gM,fun G3 wl ws1 ws2 qa s3 wr=>?_⟩;have g3:=g2.same s3;refine ⟨_,rfl,L.d,CD,L.dx,_,_,rfl,g3.hd,T.cl,T.nO,dF_o _ _ _ _ _ _ _ _,lt2,fun tt htt=>?_⟩;have s4:=aA htt (.tup [.ref wl,.ref L.od]);refine ⟨th,tt,_,_,rfl,rfl,SqT.of (s4 _ _ (s3 _ _ hth2)),SqT.of ag,(by intro z; cases z),(by show 7<=au; decide),(fun z=>by cases z),fun _ rc hrc=>?_⟩;have s5:=aA hrc (.tup [.ref kh,.int h.to,.str h.sg,.int h.a,.int h.b,.ref wl,.ref L.od]);have g5:=(g3.same s4).same s5;refine ⟨_,rfl,L.d,CD,L.dx,_,_,rfl,g5.hd,T.cl,T.nS,vW _ _ _ _ _ _ _ _,_,rfl,_,rfl,L.d,CD,L.dx,_,_,rfl,g5.hd,T.cl,T.nE,dF_e _ _ _ _ _ _ _ _,(by show 3<=au; decide),fun t ht=>?_⟩;have s6:=aA ht (.tup [.ref L.st,.ref rc,.bl w'.en]);have s46:=(s4.trans s5).trans s6;refine p _ L t rc wl ws1 ws2 qa ⟨⟨H0,s0,g5.same s6⟩,ag,⟨kh,s6 _ _ ag,hkh⟩,⟨s46 _ _ wr.hl,Paired.mono (fun _ _ z=>z.keep fun b xs e=>s46 _ _ e) wr.b,Paired.mono (fun _ _ z=>z.keep fun b xs e=>s46 _ _ e) wr.q,wr.l.same s46,wr.nd,fun a ha=>none_of (s0.trans g2.sm) (wr.fr a ha)⟩,?_⟩;refine iI.mpr ⟨g2.nd,wr.nd,fun a ha b hb z=>?_⟩;obtain ⟨o,y⟩:=g2.there a ha;rw [z,wr.fr b hb] at y
 cases y
end
theorem bR {t u:TS} {D:kL} {σ:St} {H:Hp} (h:t {D with nx:=u D} σ H):Ky t u D σ H:=h
theorem cI {te:TE} {g:TG} {D:kL} {σ:St} {H:Hp} (h:te σ H fun x H1=>g x σ H1 D.nx):DZ te g D σ H:=h
theorem aU {i:Nat} {v:V} {σ:St} {H:Hp} {Q:St->Hp->Prop} (h:Q (σ.set i (some v)) H):yF i v σ H Q:=h
theorem Ay {C:aa} {sp:Sp} {dvs:List V} {E:XK} {t:TA} {σ:St} {H:Hp} {Q:VK} (h:t σ H fun vs H1=>∀ x dx,H1 x=none->H1 dx=none->dx≠x ->
  sp (.ref x :: (vs++dvs)) (upd (upd H1 dx (.own x)) x (.ins C dx [])) (fun v H2=>v=.non/\Q (.ref x) H2) E):Jt C sp dvs E t σ H Q:=h
section
variable {X:Cx} {e:cZ} {ta:TE} {f:Str} {pos:Pos}
theorem jF (K:ae) (hK:X.K=K) (he:PE X e ta) (hb:lC e f X.env (fy e X.env)=fy e X.env):PE X (.Attribute e f pos) (KH K ta f):=by
 rw [<- hK];exact cW he hb
end
theorem BF {H:Hp} {n:Nat} {t:aa} {xs:List V} (ht:H t=some (.tup xs)\/H t=some (.lst xs)) (T:Tree H n (.ref t)):∃ m,n=m + 1/\∀ x∈xs,Tree H m x:=by
 cases n with
 | zero=>exact T.elim
 | succ m =>
  refine ⟨m,rfl,?_⟩
  rcases T with T | ⟨p,ys,e,h1,_,h2⟩
  ·exact T.elim
  ·cases e;have exy:xs=ys:=by
    rcases ht with ht | ht <;> rcases h1 with h1 | h1 <;> rw [ht] at h1 <;> cases h1 <;> rfl
   rw [exy];exact h2
theorem iV {H H':Hp} {n:Nat} {t:aa} {xs:List V} {v':V} (ht:H t=some (.tup xs)) (T:Tree H n (.ref t)) (al:Alike H H' n (.ref t) v'):∃ m t' ys,v'=.ref t'/\H' t'=some (.tup ys)/\aI (Alike H H' m) xs ys/\∀ x∈xs,Tree H m x:=by
 obtain ⟨m,rfl,h⟩:=BF (.inl ht) T;obtain ⟨t',ys,e,h1,h2⟩:=sY ht al;exact ⟨m,t',ys,e,h1,h2,h⟩
theorem vp {H H':Hp} {n:Nat} {t:aa} {xs:List V} {v':V} (ht:H t=some (.lst xs)) (T:Tree H n (.ref t)) (al:Alike H H' n (.ref t) v'):∃ m t' ys,v'=.ref t'/\H' t'=some (.lst ys)/\aI (Alike H H' m) xs ys/\∀ x∈xs,Tree H m x:=by
 obtain ⟨m,rfl,h⟩:=BF (.inr ht) T;obtain ⟨t',ys,e,h1,h2⟩:=p4 ht al;exact ⟨m,t',ys,e,h1,h2,h⟩
theorem dI {R:V->V->Prop} {x:V} {xs ys:List V} (r:aI R (x :: xs) ys):∃ y yr,ys=y :: yr/\R x y/\aI R xs yr:=by
 cases r with
 | cons a b=>exact ⟨_,_,rfl,a,b⟩
theorem mY {R:V->V->Prop} {ys:List V} (r:aI R [] ys):ys=[]:=by
 cases r;rfl
theorem ip.alike {bs qs:List Str} {H H':Hp} {v:V} {F:Fm} (h:ip bs qs H v F):∀ {n:Nat} {v':V},Tree H n v->Alike H H' n v v'->ip bs qs H' v' F:=by
 induction h with
 | num h1 h2 =>
  intro n v' T al;obtain ⟨m,t',ys,rfl,g1,g2,_⟩:=iV h1 T al;rw [iR g2 (by intro x hx; simp only [ay,aY,or_false] at hx; rcases hx with rfl | rfl <;> exact trivial)] at g1;exact .num g1 h2
 | box h1 h2 =>
  intro n v' T al;obtain ⟨m,t',ys,rfl,g1,g2,_⟩:=iV h1 T al;rw [iR g2 (by intro x hx; simp only [ay,aY,or_false] at hx; rcases hx with rfl | rfl <;> exact trivial)] at g1;exact .box g1 h2
 | long h1 h2 =>
  intro n v' T al;obtain ⟨m,t',ys,rfl,g1,g2,_⟩:=iV h1 T al;rw [iR g2 (by intro x hx; simp only [ay,aY,or_false] at hx; rcases hx with rfl | rfl <;> exact trivial)] at g1;exact .long g1 h2
 | got h1 =>
  intro n v' T al;obtain ⟨m,t',ys,rfl,g1,g2,_⟩:=iV h1 T al;rw [iR g2 (by intro x hx; simp only [ay,aY,or_false] at hx; rcases hx with rfl | rfl <;> exact trivial)] at g1;exact .got g1
 | now h1 =>
  intro n v' T al;obtain ⟨m,t',ys,rfl,g1,g2,_⟩:=iV h1 T al;rw [iR g2 (by intro x hx; rw [aH.mp hx]; exact trivial)] at g1;exact .now g1
 | two h1 h2 _ _ i1 i2 =>
  intro n v' T al;obtain ⟨m,t',ys,rfl,g1,g2,tr⟩:=iV h1 T al;obtain ⟨y0,yr,rfl,a0,g2⟩:=dI g2;obtain ⟨y1,yr,rfl,a1,g2⟩:=dI g2;obtain ⟨y2,yr,rfl,a2,g2⟩:=dI g2;obtain rfl:=mY g2;have e0:=eY (v:=.str _) trivial a0;rw [e0] at g1;exact .two g1 h2 (i1 (tr _ (by simp)) a1) (i2 (tr _ (by simp)) a2)
theorem FmI.alike {bs qs:List Str} {H H':Hp} {v v':V} {F:Fm} {n:Nat} (h:FmI bs qs H v F) (T:Tree H n v) (al:Alike H H' n v v'):FmI bs qs H' v' F:=⟨h.1.alike T al,h.2⟩
theorem lR.alike {H H':Hp} {R R':List V->Prop} {v v':V} {n:Nat} (h:lR H R v) (T:Tree H n v) (al:Alike H H' n v v') (k:∀ m vs ys,R vs->aI (Alike H H' m) vs ys->(∀ x∈vs,Tree H m x)->R' ys):lR H' R' v':=by
 obtain ⟨l,vs,rfl,h1,h2,h3⟩:=h;obtain ⟨m,t',ys,rfl,g1,g2,tr⟩:=vp h1 T al;exact ⟨t',ys,rfl,g1,by rw [<- aX g2]; exact h2,k m vs ys h3 g2 tr⟩
mutual
theorem eB.alike {bs qs:List Str} {H H':Hp}:∀ (d:Dd) (v v':V) (n:Nat),eB bs qs H d v->Tree H n v->Alike H H' n v v'->eB bs qs H' d v'
 | .put x f,v,v',n,h,T,al=>by
  obtain ⟨t,u,rfl,h1,h2,h3⟩:=(by simpa only [eB] using h);obtain ⟨m,t',ys,rfl,g1,g2,tr⟩:=iV h1 T al;obtain ⟨y0,yr,rfl,a0,g2⟩:=dI g2;obtain ⟨y1,yr,rfl,a1,g2⟩:=dI g2;obtain ⟨y2,yr,rfl,a2,g2⟩:=dI g2;obtain rfl:=mY g2;rw [eY (v:=.str _) trivial a0,eY (v:=.str _) trivial a1] at g1;simp only [eB];exact ⟨t',y2,rfl,g1,h2,h3.alike (tr _ (by simp)) a2⟩
 | .push x f,v,v',n,h,T,al=>by
  obtain ⟨t,u,rfl,h1,h2,h3⟩:=(by simpa only [eB] using h);obtain ⟨m,t',ys,rfl,g1,g2,tr⟩:=iV h1 T al;obtain ⟨y0,yr,rfl,a0,g2⟩:=dI g2;obtain ⟨y1,yr,rfl,a1,g2⟩:=dI g2;obtain ⟨y2,yr,rfl,a2,g2⟩:=dI g2;obtain rfl:=mY g2;rw [eY (v:=.str _) trivial a0,eY (v:=.str _) trivial a1] at g1;simp only [eB];exact ⟨t',y2,rfl,g1,h2,h3.alike (tr _ (by simp)) a2⟩
 | .pull q x o,v,v',n,h,T,al=>by
  obtain ⟨t,u,rfl,h1,h2,h3,h4⟩:=(by simpa only [eB] using h);obtain ⟨m,t',ys,rfl,g1,g2,tr⟩:=iV h1 T al;obtain ⟨y0,yr,rfl,a0,g2⟩:=dI g2;obtain ⟨y1,yr,rfl,a1,g2⟩:=dI g2;obtain ⟨y2,yr,rfl,a2,g2⟩:=dI g2;obtain ⟨y3,yr,rfl,a3,g2⟩:=dI g2;obtain rfl:=mY g2;rw [eY (v:=.str _) trivial a0,eY (v:=.str _) trivial a1,eY (v:=.str _) trivial a2] at g1;simp only [eB];exact ⟨t',y3,rfl,g1,h2,h3,h4.alike (tr _ (by simp)) a3 fun m vs ys a b c=>eZ.alike o vs ys m a b c⟩
 | .draw x f,v,v',n,h,T,al=>by
  obtain ⟨t,u,rfl,h1,h2,h3⟩:=(by simpa only [eB] using h);obtain ⟨m,t',ys,rfl,g1,g2,tr⟩:=iV h1 T al;obtain ⟨y0,yr,rfl,a0,g2⟩:=dI g2;obtain ⟨y1,yr,rfl,a1,g2⟩:=dI g2;obtain ⟨y2,yr,rfl,a2,g2⟩:=dI g2;obtain rfl:=mY g2;rw [eY (v:=.str _) trivial a0,eY (v:=.str _) trivial a1] at g1;simp only [eB];exact ⟨t',y2,rfl,g1,h2,h3.alike (tr _ (by simp)) a2⟩
 | .send to sg sp rk a b,v,v',n,h,T,al=>by
  obtain ⟨t,u,u1,u2,rfl,h1,h2,h3,h4⟩:=(by simpa only [eB] using h);obtain ⟨m,t',ys,rfl,g1,g2,tr⟩:=iV h1 T al;obtain ⟨y0,yr,rfl,a0,g2⟩:=dI g2;obtain ⟨y1,yr,rfl,a1,g2⟩:=dI g2;obtain ⟨y2,yr,rfl,a2,g2⟩:=dI g2;obtain ⟨y3,yr,rfl,a3,g2⟩:=dI g2;obtain ⟨y4,yr,rfl,a4,g2⟩:=dI g2;obtain ⟨y5,yr,rfl,a5,g2⟩:=dI g2;obtain ⟨y6,yr,rfl,a6,g2⟩:=dI g2;obtain rfl:=mY g2;rw [eY (v:=.str _) trivial a0,eY (v:=.int _) trivial a1,eY (v:=.str _) trivial a2,eY (v:=.int _) trivial a4] at g1;simp only [eB];exact ⟨t',y3,y5,y6,rfl,g1,h2.alike (tr _ (by simp)) a3,h3.alike (tr _ (by simp)) a5,h4.alike (tr _ (by simp)) a6⟩
 | .ife f x y,v,v',n,h,T,al=>by
  obtain ⟨t,u,u1,u2,rfl,h1,h2,h3,h4⟩:=(by simpa only [eB] using h);obtain ⟨m,t',ys,rfl,g1,g2,tr⟩:=iV h1 T al;obtain ⟨y0,yr,rfl,a0,g2⟩:=dI g2;obtain ⟨y1,yr,rfl,a1,g2⟩:=dI g2;obtain ⟨y2,yr,rfl,a2,g2⟩:=dI g2;obtain ⟨y3,yr,rfl,a3,g2⟩:=dI g2;obtain rfl:=mY g2;rw [eY (v:=.str _) trivial a0] at g1;simp only [eB];exact ⟨t',y1,y2,y3,rfl,g1,h2.alike (tr _ (by simp)) a1,h3.alike (tr _ (by simp)) a2 fun m vs ys a b c=>eZ.alike x vs ys m a b c,h4.alike (tr _ (by simp)) a3 fun m vs ys a b c=>eZ.alike y vs ys m a b c⟩
 | .fin,v,v',n,h,T,al=>by
  obtain ⟨t,rfl,h1⟩:=(by simpa only [eB] using h);obtain ⟨m,t',ys,rfl,g1,g2,tr⟩:=iV h1 T al;obtain ⟨y0,yr,rfl,a0,g2⟩:=dI g2;obtain rfl:=mY g2;rw [eY (v:=.str _) trivial a0] at g1;simp only [eB];exact ⟨t',rfl,g1⟩
theorem eZ.alike {bs qs:List Str} {H H':Hp}:∀ (d:Ds) (vs ys:List V) (n:Nat),eZ bs qs H d vs->aI (Alike H H' n) vs ys->(∀ x∈vs,Tree H n x)->eZ bs qs H' d ys
 | .nil,vs,ys,n,h,al,T=>by
  have e:vs=[]:=by simpa only [eZ] using h
  subst e;obtain rfl:=mY al;simp only [eZ]
 | .cons d r,vs,ys,n,h,al,T=>by
  obtain ⟨v,vr,rfl,h1,h2⟩:=(by simpa only [eZ] using h);obtain ⟨y,yr,rfl,a,b⟩:=dI al;simp only [eZ];exact ⟨y,yr,rfl,eB.alike d v y n h1 (T v aD) a,eZ.alike r vr yr n h2 b fun x hx=>T x (ah _ hx)⟩
end
theorem tu {α:Type} {R R':V->α->Prop} {S:V->V->Prop} {T:V->Prop} (f:∀ v a v',R v a->S v v'->T v->R' v' a):∀ {xs ys:List V} {as:List α},aI R xs as->aI S xs ys->(∀ x∈xs,T x)->aI R' ys as:=by
 intro xs ys as p
 induction p generalizing ys with
 | nil =>
  intro q _
  cases q;exact .nil
 | cons a b ih =>
  intro q t
  cases q with
  | cons c d=>exact .cons (f _ _ _ a c (t _ aD)) (ih d fun x hx=>t x (ah _ hx))
theorem vk.alike {bs qs:List Str} {ds:List Int} {hs:List (Str×Ds)} {H H':Hp} {v v':V} {n:Nat} (h:vk bs qs ds hs H v) (T:Tree H n v) (al:Alike H H' n v v'):vk bs qs ds hs H' v':=by
 obtain ⟨t,bl,ql,dl,hl,nm,vb,hv,rfl,h1,h2,h3,h4,h5,h6,h7⟩:=h.ex;obtain ⟨m,t',ys,rfl,g1,g2,tr⟩:=iV h1 T al;obtain ⟨y0,yr,rfl,a0,g2⟩:=dI g2;obtain ⟨y1,yr,rfl,a1,g2⟩:=dI g2;obtain ⟨y2,yr,rfl,a2,g2⟩:=dI g2;obtain ⟨y3,yr,rfl,a3,g2⟩:=dI g2;obtain ⟨y4,yr,rfl,a4,g2⟩:=dI g2;obtain rfl:=mY g2;obtain ⟨m1,b',zs1,rfl,c1,d1,t1⟩:=vp h2 (tr _ (by simp)) a1;obtain ⟨m2,q',zs2,rfl,c2,d2,t2⟩:=vp h4 (tr _ (by simp)) a2;obtain ⟨m3,e',zs3,rfl,c3,d3,t3⟩:=vp h5 (tr _ (by simp)) a3;obtain ⟨m4,f',zs4,rfl,c4,d4,t4⟩:=vp h6 (tr _ (by simp)) a4;rw [iR d2 (by intro x hx; obtain ⟨z,_,rfl⟩:=cB.mp hx; exact trivial)] at c2;rw [iR d3 (by intro x hx; obtain ⟨z,_,rfl⟩:=cB.mp hx; exact trivial)] at c3;refine ⟨t',b',q',e',f',y0,zs1,zs4,rfl,g1,c1,tu (fun v a v' x y z=>?_) h3 d1 t1,c2,c3,c4,tu (fun v a v' x y z=>?_) h7 d4 t4⟩
 ·obtain ⟨p,k,rfl,hp⟩:=x;obtain ⟨m',p',ws,rfl,k1,k2,_⟩:=iV hp z y;obtain ⟨w0,wr,rfl,b0,k2⟩:=dI k2;obtain ⟨w1,wr,rfl,b1,k2⟩:=dI k2;obtain rfl:=mY k2;rw [eY (v:=.str _) trivial b0] at k1;exact ⟨p',w1,rfl,k1⟩
 ·obtain ⟨p,u,rfl,hp,hu⟩:=x;obtain ⟨m',p',ws,rfl,k1,k2,tr'⟩:=iV hp z y;obtain ⟨w0,wr,rfl,b0,k2⟩:=dI k2;obtain ⟨w1,wr,rfl,b1,k2⟩:=dI k2;obtain rfl:=mY k2;rw [eY (v:=.str _) trivial b0] at k1;exact ⟨p',w1,rfl,k1,hu.alike (tr' _ (by simp)) b1 fun m vs ys a b c=>eZ.alike _ vs ys m a b c⟩
def JS (K:ae):List V->Hp->VK->Prop:=fun xs H Q=>∃ p ys,xs=[.ref p]/\(SqL K H p ys\/SqT K H p ys)/\Q (.int ys.length) H
theorem eR {X:Cx} (K:ae) (hK:X.K=K):oQ X (.builtin "len") (JS K):=by
 rw [<- hK];exact iN
theorem FM {X:Cx} (K:ae) (hK:X.K=K):IxR X (rIxL K):=by
 rw [<- hK];exact cV
theorem lV {X:Cx} (K:ae) (hK:X.K=K):IxR X (rIxT K):=by
 rw [<- hK];exact cL
theorem BG {X:Cx} {pos:Pos} {es:List cZ} {k:Nat} {t:TGs} {n:Nat} (K:ae) (hK:X.K=K) (hc:X.calm=true) (h:PGs X es t)
  (hn:(iC es X.env).length=n:=by rfl) (hst:(iC es X.env).findIdx? (·.1)=none:=by rfl):PG X (.Tuple es k pos) (gTup K n t):=by
 rw [<- hK];exact xp hc h hn hst
theorem Az:1<=au:=by decide
theorem fY {te:TE} {D:kL} {σ:St} {H:Hp} (h:te σ H D.rt):tRet te D σ H:=h
theorem C4 {K:ae} {m C dx ml:aa} {fs:List (Str×V)} {f:Str} {ms:List V} {n i:Nat} {g:TG} {tc:L2.TT} {te:TE} {σ:St} {H:Hp} {Q:VK} (hv:σ[i]?=some (some (.ref m))) (hm:H m=some (.ins C dx fs)) (cl:Cls K C) (na:eV K C f) (lk:fs.lookup f=some (.ref ml)) (hml:H ml=some (.lst ms)) (hlen:ms.length < 1000)
  (Pv:Nat->List V->Hp->Prop) (h0:Pv 0 [] H) (hl:∀ i ys H,i<=ms.length->Pv i ys H->ys.length < au)
  (hs:∀ i ys H,i < ms.length->Pv i ys H->g (.int (0 + i)) (cH n none++σ) H fun σ2 H2=>σ2.drop n=σ/\tc σ2 H2 fun b H3=>if b=true then te σ2 H3 fun y H4=>Pv (i + 1) (ys++[y]) H4 else Pv (i + 1) ys H3)
  (hd:∀ ys H,Pv ms.length ys H->∀ p,H p=none->Q (.ref p) (upd H p (.lst ys))):tT n (Ee (mC (tCB (JS K) (mC (KH K (xm i) f) zR)) zR)) g tc te σ H Q:=by
 refine ⟨.ref m,hv,m,C,dx,fs,.ref ml,rfl,hm,cl,na,lk,ml,ms,rfl,.inl (SqL.of hml),(ms.length:Int),rfl,by omega,by omega,?_⟩;rw [ng];refine ⟨fun i k ys H=>k=ms.length - i/\i<=ms.length/\Pv i ys H,⟨ms.length,by simp,bH _,h0⟩,?_⟩;rintro i k ys H ⟨rfl,hi,pv'⟩;refine ⟨hl i ys H hi pv',?_⟩
 by_cases lt:i < ms.length
 ·refine .inr ⟨lt,Pv (i + 1),fun ys' H' p'=>⟨ms.length - (i + 1),by omega,rfl,lt,p'⟩,fun x H' y=>?_⟩;obtain ⟨e,y⟩:=y;subst e y;exact hs i ys _ lt pv'
 ·have e:i=ms.length:=by omega
  subst e;exact .inl ⟨aE _,hd ys H pv'⟩
theorem AA {K:ae} {a:aa} {xs:List V} {n i:Nat} {g:TG} {tc:L2.TT} {te:TE} {σ:St} {H:Hp} {Q:VK} (hv:σ[i]?=some (some (.ref a))) (hx:SqL K H a xs) (Pv:Nat->List V->Hp->Prop) (h0:Pv 0 [] H) (hl:∀ i ys H,i<=xs.length->Pv i ys H->SqL K H a xs/\ys.length < au)
  (hs:∀ i x t ys H,xs[i]?=some x->Pv i ys H->H t=none->g (.ref t) (cH n none++σ) (upd H t (.tup [.int i,x])) fun σ2 H2=>σ2.drop n=σ/\tc σ2 H2 fun b H3=>if b=true then te σ2 H3 fun y H4=>Pv (i + 1) (ys++[y]) H4 else Pv (i + 1) ys H3)
  (hd:∀ ys H,Pv xs.length ys H->∀ p,H p=none->Q (.ref p) (upd H p (.lst ys))):tT n (JB K (mC (xm i) zR)) g tc te σ H Q:=
 ⟨.ref a,hv,a,rfl,⟨xs,hx⟩,CJ Pv h0 hl hs hd⟩
def vt (H:Hp) (v:V) (e:Ev):Prop:=∃ t,v=.ref t/\H t=some (.tup [.int e.t,.int e.r,.int e.to,.str e.sg,.int e.a,.int e.b])
theorem vt.same {H H':Hp} (s:bj H H') {v:V} {e:Ev} (h:vt H v e):vt H' v e:=by
 obtain ⟨t,e,h⟩:=h;exact ⟨t,e,s _ _ h⟩
def atP (e:Ev) (i:Nat):Ev:={e with fr:=-1,c:=i}
section
variable {P:aL} {w:bN} {K:ae} {mg:Str->Option af} {base:cF} {f fP CB:aa} {fd fdP:cw}
inductive FN (vs:List V) (H:Hp) (Q:VK) (_e:XK):Prop where
 | mk (sl:aa) (svs:List V) (es:List Ev) (_:vs=[.ref sl]) (_:H sl=some (.lst svs)) (_:aI (vt H) svs es) (_:es.length < 1000) (_:∀ (G:Hp) (l:aa) (ys:List V),bj H G->H l=none->G l=some (.lst ys)->ys.length=es.length->(∀ i y e,ys[i]?=some y->es[i]?=some e->gK G y (atP e i))->Q (.ref l) G):FN vs H Q _e
def JT:Sp:=fun vs H Q _e=>FN vs H Q _e
theorem scPf:cv ["signs"] ["signs"] (aQ gE):={}
theorem ndPf:((["place","sign"]:List Str)++(["signs"]:List Str)).Nodup:=by decide +kernel
theorem Lx (D:Df K mg "pending_at_first" gE ["signs"] f fd) (ME:mg "enumerate"=none):cm P w K mg base CX0 1 f fd ["signs"] JT:=by
 refine D.F.ok scPf (fun vs H Q E h=>?_) (fun cdv A outer s H vs Q E hr h=>?_)
 ·obtain ⟨sl,svs,es,rfl,_⟩:=h;rfl
 obtain ⟨sl,svs,es,rfl,hsl,ps,les,k⟩:=h;refine ⟨_,aF (bQ (uy ["place","sign"] (iG.open (NN:=["signs"]) (N:=["signs"]) (sc:=aQ gE) rfl rfl (by decide +kernel) rfl (by decide +kernel) (by decide +kernel) rfl (by decide +kernel)) rfl (HV (by rfl) ME (av (pv 0) ao))
  (fun _ _ _ _=>BG (n:=2) K (by rfl) rfl (eF (cP (i:=0) ndPf rfl (Or.inl rfl)) (eF (cP (i:=1) ndPf rfl (Or.inl rfl)) nj))) (fun _ _ _ _=>kD)
  (fun _ _ _ _=>cR (av (cR (av (bT (lV K (by rfl)) (pv 1) aw (by intro _ _; rfl)) (av (bT (lV K (by rfl)) (pv 1) aw (by intro _ _; rfl)) (av (wg sI aw) (av (pv 0) ao)))))
   (av (bT (lV K (by rfl)) (pv 1) aw (by intro _ _; rfl)) (av (bT (lV K (by rfl)) (pv 1) aw (by intro _ _; rfl)) (av (bT (lV K (by rfl)) (pv 1) aw (by intro _ _; rfl)) (av (bT (lV K (by rfl)) (pv 1) aw (by intro _ _; rfl)) ao)))))))),?_⟩
 have big:=fq;have lps:=aX ps;refine fY ?_;refine AA (K:=K) (a:=sl) (xs:=svs) rfl (SqL.of hsl) (fun i ys G=>ys.length=i/\bj H G/\∀ j y e,ys[j]?=some y->es[j]?=some e->gK G y (atP e j)) ⟨rfl,bj.refl _,fun j y e h=>by simp at h⟩ ?_ ?_ ?_
 ·rintro i ys G hi ⟨h1,h2,_⟩;exact ⟨SqL.of (h2 _ _ hsl),by omega⟩
 ·rintro i x t ys G hi ⟨h1,h2,h3⟩ ht;obtain ⟨e,he,ts,rfl,hts⟩:=mX ps hi;have st_:=aA ht (.tup [.int i,.ref ts]);have hq:=st_ _ _ (h2 _ _ hts);refine ⟨t,_,rfl,SqT.of ag,rfl,_,_,rfl,_,_,rfl,rfl,?_⟩;refine ⟨rfl,?_⟩;unfold vR;refine iF ?_;refine ⟨_,rfl,ts,_,_,_,rfl,rfl,SqT.of hq,rfl,_,rfl,ts,_,_,_,rfl,rfl,SqT.of hq,rfl,_,rfl,_,rfl,(by show 4<=au; decide),fun kt hkt=>?_⟩;have sk:=aA hkt (.tup [.int e.t,.int e.r,.int (-1),.int i]);have hq2:=sk _ _ hq;refine ⟨_,rfl,ts,_,_,_,rfl,rfl,SqT.of hq2,rfl,_,rfl,ts,_,_,_,rfl,rfl,SqT.of hq2,rfl,_,rfl,ts,_,_,_,rfl,rfl,SqT.of hq2,rfl,_,rfl,ts,_,_,_,rfl,rfl,SqT.of hq2,rfl,(by show 5<=au; decide),fun et het=>?_⟩;have se:=aA het (.tup [.ref kt,.int e.to,.str e.sg,.int e.a,.int e.b]);have sA:=(st_.trans sk).trans se;refine ⟨by rw [ax,h1]; rfl,h2.trans sA,fun j y e' hy he'=>?_⟩
  rcases lK j ys.length with lt | ge
  ·rw [fk lt] at hy;exact (h3 j y e' hy he').same sA
  ·rw [c9 ge] at hy;have ej:j=i:=by
    by_cases c:j - ys.length=0
    ·omega
    ·rw [List.getElem?_cons,if_neg c] at hy;simp at hy
   subst ej;rw [h1,um] at hy
   cases hy;rw [he] at he'
   cases he';exact ⟨et,kt,rfl,ag,se _ _ ag⟩
 ·rintro ys G ⟨h1,h2,h3⟩ l hl;have sl':=aA hl (.lst ys);exact k _ l ys (h2.trans sl') (none_of h2 hl) ag (by omega) fun i y e hy he=>(h3 i y e hy he).same sl'
inductive Ly (vs:List V) (H:Hp) (Q:VK) (_e:XK):Prop where
 | mk (q:aa) (v:V) (_:vs=[.ref q,v]) (_:H q=some (.lst [])) (_:Q (.int 0) H):Ly vs H Q _e
inductive Lz (vs:List V) (H:Hp) (Q:VK) (_e:XK):Prop where
 | mk (q:aa) (v:V) (_:vs=[.ref q,v]) (_:H q=some (.lst [])) (_:Q .non (upd H q (.lst [v]))):Lz vs H Q _e
theorem wY:cv ["falling","thing","low","high","middle"] ["falling","thing"] (aQ nX):={}
theorem scPic:cv ["falling","thing"] ["falling","thing"] (aQ rD):={}
def AB (r e s:V):List (Str×V):=dM "states" s (dM "ending" e (dM "records" r []))
structure BkT (K:ae) (mg:Str->Option af) (CB:aa):Prop where
 cl:Cls K CB
 nR:eV K CB "records"
 nE:eV K CB "ending"
 nS:eV K CB "states"
 m:mg "Book"=some (.ref CB)
inductive JU (CB:aa) (vs:List V) (H:Hp) (Q:VK) (_e:XK):Prop where
 | mk (b dx:aa) (r e s:V) (_:vs=[.ref b,r,e,s]) (_:H b=some (.ins CB dx [])) (_:∀ G,G b=some (.ins CB dx (AB r e s))->But b H G->Q .non G):JU CB vs H Q _e
def spBk (CB:aa):Sp:=fun vs H Q _e=>JU CB vs H Q _e
theorem scBk:cv ["self","records","ending","states"] ["self","records","ending","states"] (aQ pC):={}
theorem ok_bk (F:Fun K "__init__" "Book.__init__" pC f fd) (T:BkT K mg CB):cm P w K mg base CX0 1 f fd ["self","records","ending","states"] (spBk CB):=by
 refine F.ok scBk (fun vs H Q E h=>?_) (fun cdv A outer s H vs Q E hr h=>?_)
 ·obtain ⟨b,dx,r,e,s',rfl,_⟩:=h;rfl
 obtain ⟨b,dx,r,e,s',rfl,hb,k⟩:=h;refine ⟨_,ak (gb (pv 0) (pv 1) rfl) (ak (gb (pv 0) (pv 2) rfl) (aF (gb (pv 0) (pv 3) rfl))),?_⟩;have l1:=hJ "records" r [];have l2:=hJ "ending" e (dM "records" r []);simp only [cU] at l1;refine ⟨_,rfl,_,rfl,b,CB,dx,[],rfl,hb,T.cl,T.nR,(by show 0 < 1000; decide),_,rfl,_,rfl,b,CB,dx,_,rfl,ag,T.cl,T.nE,(by omega),_,rfl,_,rfl,b,CB,dx,_,rfl,ag,T.cl,T.nS,(by omega),?_⟩;exact k _ ag (((But.upd b H _).trans (But.upd b _ _)).trans (But.upd b _ _))
theorem LA (r e s:V):(AB r e s).lookup ("records":Str)=some r:=rfl
theorem AC (r e s:V):(AB r e s).lookup ("ending":Str)=some e:=rfl
def pH (wd:Str):Sp:=fun vs H Q _=>∃ a,vs=[a]/\Q (.str wd) H
theorem C5:cv ["self"] ["self"] (aQ md):={}
theorem AD (F:Fun K "word" "Nought.word" md f fd):pf P w K mg base CX0 1 f fd ["self"] (pH "nought"):=by
 refine F.okH C5 (fun vs H Q E h=>?_) (fun cdv A outer s H vs Q E h=>?_)
 ·obtain ⟨a,rfl,_⟩:=h;rfl
 obtain ⟨a,rfl,q⟩:=h;exact ⟨_,aF (bQ cA),q⟩
end
mutual
def Dd.toOk (m:Int):Dd->Prop
 | .send to _ _ _ _ _=>0<=to/\to < m
 | .pull _ _ o=>o.toOk m
 | .ife _ t e=>t.toOk m/\e.toOk m
 | _=>True
def Ds.toOk (m:Int):Ds->Prop
 | .nil=>True
 | .cons d r=>d.toOk m/\r.toOk m
end
def ddz:Nat->Nat
 | 0=>1
 | n + 1=>1 + 6 * ddz n
structure MD where
 nm:Str
 bs:List Str
 qs:List Str
 ds:List Int
 hs:List (Str×Ds)
 ps:List (Str×Int)
def AE (H:Hp) (v:V) (M:MD):Prop:=∃ (t bl ql:aa) (n0 x3 x4:V) (vb:List V),v=.ref t/\H t=some (.tup [n0,.ref bl,.ref ql,x3,x4])/\H bl=some (.lst vb)/\gy H M.ps vb/\H ql=some (.lst (M.qs.map V.str))
structure MoI (m:Int) (H:Hp) (v:V) (M:MD):Prop where
 ma:vk M.bs M.qs M.ds M.hs H v
 fs:AE H v M
 kb:M.ps.map (·.1)=M.bs
 nb:M.bs.Nodup
 nq:M.qs.Nodup
 lb:M.bs.length<=9
 lq:M.qs.length<=9
 ld:M.ds.length<=100
 lh:M.hs.length<=9
 wb:∀ q∈M.ps,Wo q.2
 hk:∀ q∈M.hs,q.2.toOk m/\q.2.deep<=4/\q.2.size<=3 * ddz 4
theorem AE.same {H H':Hp} (s:bj H H') {v:V} {M:MD} (h:AE H v M):AE H' v M:=by
 obtain ⟨t,bl,ql,n0,x3,x4,vb,e,h1,h2,h3,h4⟩:=h;exact ⟨t,bl,ql,n0,x3,x4,vb,e,s _ _ h1,s _ _ h2,h3.same s,s _ _ h4⟩
theorem MoI.same {m:Int} {H H':Hp} (s:bj H H') {v:V} {M:MD} (h:MoI m H v M):MoI m H' v M:=
 ⟨h.ma.same s,h.fs.same s,h.kb,h.nb,h.nq,h.lb,h.lq,h.ld,h.lh,h.wb,h.hk⟩
def C6 (m:Int) (H:Hp) (ml:aa) (Ms:List MD):Prop:=∃ xs,H ml=some (.lst xs)/\aI (MoI m H) xs Ms
theorem C6.same {m:Int} {H H':Hp} (s:bj H H') {ml:aa} {Ms:List MD} (h:C6 m H ml Ms):C6 m H' ml Ms:=by
 obtain ⟨xs,h1,h2⟩:=h;exact ⟨xs,s _ _ h1,Paired.mono (fun _ _ z=>z.same s) h2⟩
abbrev pI (zs:List (V×List Int)):Prop:=zs.Pairwise (fun a b=>HT.lexLt b.2 a.2=true)
theorem pI.put {zs:List (V×List Int)} {x:V×List Int} {i:Nat} (h:pI zs) (h1:∀ (j:Nat) z,j < i->zs[j]?=some z->HT.lexLt x.2 z.2=true) (h2:∀ (j:Nat) z,i<=j->zs[j]?=some z->HT.lexLt z.2 x.2=true):pI (zs.take i++x :: zs.drop i):=by
 have a1:∀ a∈zs.take i,HT.lexLt x.2 a.2=true:=fun a ha=>by
  obtain ⟨j,hj⟩:=dG ha;have lt:j < (zs.take i).length:=(aC.mp hj).1;rw [aT] at lt;rw [yp (by omega)] at hj;exact h1 j a (by omega) hj
 have a2:∀ a∈zs.drop i,HT.lexLt a.2 x.2=true:=fun a ha=>by
  obtain ⟨j,hj⟩:=dG ha;rw [Dz] at hj;exact h2 (i + j) a (by omega) hj
 have hh:pI (zs.take i++zs.drop i):=by
  rw [kf];exact h
 obtain ⟨p1,p2,p3⟩:=gZ.mp hh;refine gZ.mpr ⟨p1,gJ.mpr ⟨fun b hb=>a2 b hb,p2⟩,fun a ha b hb=>?_⟩
 rcases ay.mp hb with z | z
 ·rw [z];exact a1 a ha
 ·exact p3 a ha b z
theorem pI.at_ {zs:List (V×List Int)} (h:pI zs) {i j:Nat} (lt:i < j) {y z:V×List Int} (hi:zs[i]?=some y) (hj:zs[j]?=some z):HT.lexLt z.2 y.2=true:=by
 obtain ⟨l1,e1⟩:=aC.mp hi;obtain ⟨l2,e2⟩:=aC.mp hj;have:=dA.mp h i j l1 l2 lt;rw [e1,e2] at this;exact this
section
variable {P:aL} {w:bN} {K:ae} {mg:Str->Option af} {base:cF} {f fP:aa} {fd fdP:cw}
inductive FO (vs:List V) (H:Hp) (Q:VK) (_e:XK):Prop where
 | mk (q b:aa) (zs:List (V×List Int)) (n:List Int) (_:vs=[.ref q,.ref b]) (_:H q=some (.lst (zs.map (·.1)))) (_:(∀ z∈zs,Am H z)) (_:pI zs) (_:Am H (.ref b,n)) (_:n∉zs.map (·.2)) (_:zs.length<=10000000) (_:∀ i:Nat,i<=zs.length->pI (zs.take i++(V.ref b,n) :: zs.drop i)->Q (.int i) H):FO vs H Q _e
def JV:Sp:=fun vs H Q _e=>FO vs H Q _e
theorem LB (D:Df K mg "place_in" nX ["falling","thing"] f fd) (B:Bl mg):cm P w K mg base CX0 1 f fd ["falling","thing"] JV:=by
 refine D.F.ok wY (fun vs H Q E h=>?_) (fun cdv A outer s H vs Q E hr h=>?_)
 ·obtain ⟨q,b,zs,n,rfl,_⟩:=h;rfl
 obtain ⟨q,b,zs,n,rfl,hq,hz,hf,hb,nn,hl,k⟩:=h;have hu:=qx hr;obtain ⟨b0,kb,rb,eb,hb1,hb2⟩:=hb
 cases eb;refine ⟨_,ak (aZ (i:=2) wY.nd rfl (Or.inl rfl) aw)
  (ak (aZ (i:=3) wY.nd rfl (Or.inl rfl) (dB iN (by rfl) B.len cG (av (pv 0) ao)))
  (ak (yG dy (bM uP (pv 2) (pv 3) (cj _))
   (ak (aZ (i:=4) wY.nd rfl (Or.inl rfl) (cC xt (cC ff (pv 2) (pv 3)) aw))
   (aF (cS (bM (K7 hu) (bT cV (pv 0) (pv 4) (fun _ _=>rfl)) (pv 1) (cj _))
    (aF (aZ (i:=2) wY.nd rfl (Or.inl rfl) (cC ff (pv 4) aw)))
    (aF (aZ (i:=3) wY.nd rfl (Or.inl rfl) (pv 4)))))))
  (aF (bQ (pv 2))))),?_⟩
 refine ⟨_,rfl,q,_,rfl,.inl (SqL.of hq),?_⟩;refine yH (fun σ H2=>∃ (lo hi:Nat) (m:Option V),σ=[some (.ref q),some (.ref b),some (.int lo),some (.int hi),m]/\H2=H/\lo<=hi/\hi<=zs.length /\
   (∀ (j:Nat) (z:V×List Int),j < lo->zs[j]?=some z->HT.lexLt n z.2=true)/\∀ (j:Nat) (z:V×List Int),hi<=j->zs[j]?=some z->HT.lexLt n z.2=false)
  (fun σ _=>match σ with | [_,_,some (.int lo),some (.int hi),_]=>(hi - lo).toNat | _=>0) ?_ ?_ ?_
 ·refine ⟨0,zs.length,none,?_,rfl,bH _,aE _,fun j z h=>absurd h (kX _),fun j z h e=>?_⟩
  ·rw [ai];rfl
  ·rw [cT (by omega)] at e
   cases e
 ·rintro σ H2 ⟨lo,hi,m,rfl,rfl,h1,h2,h3,h4⟩;refine ⟨_,rfl,_,rfl,_,_,rfl,rfl,_,rfl,?_⟩;refine gS (fun c=>?_) (fun c=>?_)
  ·have c:lo < hi:=by
    have z:=of_decide_eq_true c;omega
   refine ⟨_,rfl,_,rfl,_,_,rfl,rfl,_,_,rfl,rfl,⟨by decide,by decide⟩,?_⟩;have em:((lo:Int) + (hi:Int)) / 2=(((lo + hi) / 2:Nat):Int):=by omega
   have lm:(lo + hi) / 2 < zs.length:=by omega
   obtain ⟨z,hz0⟩:∃ z,zs[(lo + hi) / 2]?=some z:=⟨_,aj lm⟩;have mz:=bX hz0;obtain ⟨az,kz,rz,ez,hz1,hz2⟩:=hz z mz;have ea:(zs.map (·.1))[(lo + hi) / 2]?=some (.ref az):=by rw [bS,hz0,E4,ez]
   have nz:z.2≠n:=fun y=>nn (by rw [<- y]; exact qV mz);refine ⟨_,rfl,_,rfl,q,_,_,_,rfl,rfl,SqL.of hq,(by rw [em]; exact gR ea),_,rfl,az,b,kz,kb,z.2,n,rz,rb,rfl,rfl,hz1,hb1,hz2,hb2,nz,_,rfl,?_⟩;refine gS (fun g=>?_) (fun g=>?_)
   ·refine ⟨_,rfl,_,_,rfl,rfl,⟨(lo + hi) / 2 + 1,hi,some (.int (((lo:Int) + (hi:Int)) / 2)),?_,rfl,by omega,h2,fun j y hj e=>?_,h4⟩,?_⟩
    ·have e2:(((lo + hi) / 2 + 1:Nat):Int)=((lo:Int) + (hi:Int)) / 2 + 1:=by omega
     rw [e2];rfl
    ·by_cases ej:j=(lo + hi) / 2
     ·rw [ej,hz0] at e
      cases e;exact g
     ·exact HT.lx_trans g (hf.at_ (show j < (lo + hi) / 2 by omega) e hz0)
    ·show ((hi:Int) - (((lo:Int) + (hi:Int)) / 2 + 1)).toNat < ((hi:Int) - (lo:Int)).toNat;omega
   ·refine ⟨_,rfl,⟨lo,(lo + hi) / 2,some (.int (((lo:Int) + (hi:Int)) / 2)),?_,rfl,by omega,by omega,h3,fun j y hj e=>?_⟩,?_⟩
    ·rw [<- em];rfl
    ·have g':HT.lexLt n z.2=false:=by
      cases e':HT.lexLt n z.2 with
      | false=>rfl
      | true=>exact absurd e' g
     by_cases ej:j=(lo + hi) / 2
     ·rw [ej,hz0] at e
      cases e;exact g'
     ·have z1:=hf.at_ (show (lo + hi) / 2 < j by omega) hz0 e
      cases e':HT.lexLt n y.2 with
      | false=>rfl
      | true =>
       have z2:=HT.lx_trans e' z1;rw [g'] at z2
       cases z2
    ·show ((((lo:Int) + (hi:Int)) / 2) - (lo:Int)).toNat < ((hi:Int) - (lo:Int)).toNat;omega
  ·have e:lo=hi:=by
    have z:¬ ((lo:Int) < (hi:Int)):=fun z=>c (decide_eq_true z);omega
   subst e;refine ⟨_,rfl,k lo h2 (hf.put h3 fun j z hj e=>?_)⟩;exact HT.lx_of_not (h4 j z hj e) fun y=>nn (by
    have y:n=z.2:=y;rw [y];exact qV (bX e))
 ·rintro σ H2 Q1 Q2 hq2 h;obtain ⟨a1,e1,a2,e2,i,j,e3,e4,b',e5,h⟩:=h;exact ⟨a1,e1,a2,e2,i,j,e3,e4,b',e5,hq2 _ _ h⟩
inductive FP (vs:List V) (H:Hp) (Q:VK) (_e:XK):Prop where
 | mk (q b:aa) (zs:List (V×List Int)) (n:List Int) (_:vs=[.ref q,.ref b]) (_:H q=some (.lst (zs.map (·.1)))) (_:(∀ z∈zs,Am H z)) (_:pI zs) (_:Am H (.ref b,n)) (_:n∉zs.map (·.2)) (_:zs.length<=10000000) (_:∀ zs':List (V×List Int),zs'.Perm ((V.ref b,n) :: zs)->pI zs'->Q .non (upd H q (.lst (zs'.map (·.1))))):FP vs H Q _e
def BH:Sp:=fun vs H Q _e=>FP vs H Q _e
theorem LC (D:Df K mg "put_in" rD ["falling","thing"] f fd) (DP:Df K mg "place_in" nX ["falling","thing"] fP fdP) (B:Bl mg):cm P w K mg base CX0 2 f fd ["falling","thing"] BH:=by
 have GP:cm P w K mg base CX0 1 fP fdP ["falling","thing"] JV:=LB DP B;refine D.F.ok scPic (fun vs H Q E h=>?_) (fun cdv A outer s H vs Q E hr h=>?_)
 ·obtain ⟨q,b,zs,n,rfl,_⟩:=h;rfl
 obtain ⟨q,b,zs,n,rfl,hq,hz,hf,hb,nn,hl,k⟩:=h;refine ⟨_,aF (eK (kQ cy PySem.F.slot_list_insert PySem.F.type_list_insert Cz (pv 0) (av (aO GP hr rfl DP.m DP.F.kp DP.b .nil bY (av (pv 0) (av (pv 1) ao))) (av (pv 1) ao)))),?_⟩;have sl:10000000 < au:=by decide
 refine ⟨_,rfl,.inl ⟨rfl,_,SqL.of hq⟩,_,rfl,_,rfl,q,b,zs,n,rfl,hq,hz,hf,hb,nn,hl,fun i hi fz=>⟨_,rfl,q,_,i,.ref b,rfl,rfl,hq,by rw [ai]; exact hi,by rw [ai]; omega,?_⟩⟩;have z:=k (zs.take i++(V.ref b,n) :: zs.drop i) ?_ fz
 ·rw [bV,cu,rK,yA] at z;exact z
 ·refine Hj.trans ?_;rw [kf]
end
structure Sta where
 bx:List (Str×Int)
 qu:List (Str×List Int)
 dr:Nat
 se:Int
def Sta.w (s:Sta):Wk:=w0 s.bx s.qu s.dr s.se
structure Rec where
 h:Ev
 wb:List (Str×Int)
 wq:List (Str×List Int)
 out:List Ev
inductive Stp where
 | fin (h:Ev)
 | flt (e:Flt) (h:Ev)
inductive End where
 | empty
 | cut
 | stp (s:Stp)
structure RS where
 sts:List Sta
 pd:List Ev
 re:Option Ev
 sp:Option Stp
def Ev.key (e:Ev):List Int:=[e.t,e.r,e.fr,e.c]
def vv (x:Ev):List Ev->List Ev
 | []=>[x]
 | y :: ys=>if HT.lexLt x.key y.key=true then y :: vv x ys else x :: y :: ys
def qN (xs pd:List Ev):List Ev:=xs.foldl (fun p e=>vv e p) pd
abbrev lW (es:List Ev):Prop:=es.Pairwise (fun a b=>HT.lexLt b.key a.key=true)
def km (r:RS) (left:Int):Option End:=match r.sp with
 | some s=>some (.stp s)
 | none=>if r.pd.isEmpty=true then some .empty else if left<=0 then some .cut else none
def g9 (Ms:List MD) (r:RS):RS×List Rec:=match r.pd.getLast? with
 | none=>(r,[])
 | some h=>match Ms[h.to.toNat]?,r.sts[h.to.toNat]? with
  | some M,some s=>(match doS h M.ds (jE M.hs h.sg) s.w with
   | .error e=>({r with pd:=r.pd.dropLast,sp:=some (.flt e h)},[])
   | .ok w=>(⟨r.sts.set h.to.toNat ⟨w.bx,w.qu,w.dr,w.se⟩,qN w.out r.pd.dropLast,some h,if w.en=true then some (.fin h) else none⟩,[⟨h,wrB M.bs w,wrQ M.qs w,w.out⟩]))
  | _,_=>(r,[])
def itR (Ms:List MD) (r:RS):Nat->RS×List Rec
 | 0=>(r,[])
 | n + 1=>((g9 Ms (itR Ms r n).1).1,(itR Ms r n).2++(g9 Ms (itR Ms r n).1).2)
theorem mZ (x:Ev):∀ ys:List Ev,(vv x ys).Perm (x :: ys)
 | []=>jt _
 | y :: ys=>by
  unfold vv
  split
  ·exact ((mZ x ys).cons y).trans (List.Perm.swap x y ys)
  ·exact jt _
theorem gQ:∀ (xs pd:List Ev),(qN xs pd).Perm (xs++pd)
 | [],pd=>jt _
 | x :: xs,pd=>by
  show (qN xs (vv x pd)).Perm _;refine (gQ xs (vv x pd)).trans ?_;refine ((jt xs).append (mZ x pd)).trans ?_;exact Hj
theorem tw {x:Ev}:∀ {ys:List Ev},lW ys->(∀ y∈ys,x.key≠y.key)->lW (vv x ys)
 | [],_,_=>oz _ _
 | y :: ys,h,n=>by
  obtain ⟨h1,h2⟩:=gJ.mp h;unfold vv
  by_cases c:HT.lexLt x.key y.key=true
  ·rw [if_pos c];refine gJ.mpr ⟨fun z hz=>?_,tw h2 fun z hz=>n z (ah _ hz)⟩
   rcases ay.mp ((mZ x ys).mem_iff.mp hz) with e | e
   ·rw [e];exact c
   ·exact h1 z e
  ·rw [if_neg c];have lt:HT.lexLt y.key x.key=true:=HT.lx_of_not (by
    cases e:HT.lexLt x.key y.key with
    | false=>rfl
    | true=>exact absurd e c) (n y aD)
   refine gJ.mpr ⟨fun z hz=>?_,h⟩
   rcases ay.mp hz with e | e
   ·rw [e];exact lt
   ·exact HT.lx_trans (h1 z e) lt
theorem wZ:∀ {xs ys:List Ev},lW xs->lW ys->xs.Perm ys->xs=ys
 | [],ys,_,_,p=>(List.nil_perm.mp p).symm ▸ rfl
 | x :: xs,[],_,_,p=>absurd p (by intro z; have:=z.length_eq; simp at this)
 | x :: xs,y :: ys,h,k,p=>by
  obtain ⟨h1,h2⟩:=gJ.mp h;obtain ⟨k1,k2⟩:=gJ.mp k;have e:x=y:=by
   rcases ay.mp (p.mem_iff.mp (aD (a:=x) (l:=xs))) with z | z
   ·exact z
   ·rcases ay.mp (p.mem_iff.mpr (aD (a:=y) (l:=ys))) with q | q
    ·exact q.symm
    ·have a:=k1 x z;have b:=HT.lx_asym (h1 y q);rw [a] at b
     cases b
  subst e;rw [wZ h2 k2 ((List.perm_cons x).mp p)]
structure JW (m:Int) (h:Ev) (se se':Int) (e:Ev):Prop where
 fr:e.fr=h.to
 c0:se<=e.c
 c1:e.c < se'
 t0:h.t < e.t
 t1:e.t<=10 ^ 12
 to0:0<=e.to
 to1:e.to < m
structure News (m:Int) (h:Ev) (n:Nat) (w w':Wk):Prop where
 se:w.se<=w'.se
 ex:∃ new,w'.out=w.out++new/\new.length<=n/\(∀ e∈new,JW m h w.se w'.se e)/\new.Pairwise (fun a b=>a.c < b.c)
theorem News.none {m:Int} {h:Ev} {n:Nat} {w w':Wk} (e1:w'.se=w.se) (e2:w'.out=w.out):News m h n w w':=
 ⟨by rw [e1]; exact Int.le_refl _,[],by rw [e2,dE],bH _,(fun e he=>by cases he),List.Pairwise.nil⟩
theorem News.trans {m:Int} {h:Ev} {n1 n2:Nat} {w w1 w2:Wk} (a:News m h n1 w w1) (b:News m h n2 w1 w2):News m h (n1 + n2) w w2:=by
 obtain ⟨s1,x1,e1,l1,o1,p1⟩:=a;obtain ⟨s2,x2,e2,l2,o2,p2⟩:=b;refine ⟨Int.le_trans s1 s2,x1++x2,by rw [e2,e1,gY],by rw [ax]; omega,fun e he=>?_,gZ.mpr ⟨p1,p2,fun a ha b hb=>?_⟩⟩
 ·rcases bU.mp he with z | z
  ·obtain ⟨f,c0,c1,t0,t1,q0,q1⟩:=o1 e z;exact ⟨f,c0,by omega,t0,t1,q0,q1⟩
  ·obtain ⟨f,c0,c1,t0,t1,q0,q1⟩:=o2 e z;exact ⟨f,by omega,c1,t0,t1,q0,q1⟩
 ·have:=(o1 a ha).c1;have:=(o2 b hb).c0;omega
theorem News.le {m:Int} {h:Ev} {n1 n2:Nat} {w w1:Wk} (a:News m h n1 w w1) (l:n1<=n2):News m h n2 w w1:=by
 obtain ⟨s1,x1,e1,l1,o1,p1⟩:=a;exact ⟨s1,x1,e1,by omega,o1,p1⟩
theorem News.from {m:Int} {h:Ev} {n:Nat} {w0 w w':Wk} (a:News m h n w w') (e1:w.se=w0.se) (e2:w.out=w0.out):News m h n w0 w':=by
 obtain ⟨s1,x1,f1,l1,o1,p1⟩:=a;rw [e1] at s1 o1;exact ⟨s1,x1,by rw [f1,e2],l1,o1,p1⟩
theorem jG {h:Ev} {w w':Wk} {f:Fm} {k:Wk->Int->Except Flt Wk} (e:rck h w f k=.ok w'):∃ n,k {w with rk:=w.rk++[f]} n=.ok w':=by
 unfold rck at e
 split at e
 ·exact ⟨_,e⟩
 ·cases e
 ·cases e
mutual
theorem FQ {m:Int} {h:Ev} {ds:List Int}:∀ (D:Dd) (w w':Wk),D.toOk m->doD h ds D w=.ok w'->News m h D.size w w'
 | .put x f,w,w',_,e=>by
  simp only [doD] at e;obtain ⟨n,e⟩:=jG e
  cases e;exact News.none rfl rfl
 | .push q f,w,w',_,e=>by
  simp only [doD] at e;obtain ⟨n,e⟩:=jG e;try dsimp only at e
  split at e
  ·cases e
  ·cases e;exact News.none rfl rfl
 | .pull q x o,w,w',to,e=>by
  simp only [doD] at e;simp only [Dd.toOk] at to
  split at e
  ·exact ((m5 o _ _ to e).le (gc _)).from rfl rfl
  ·cases e;exact News.none rfl rfl
 | .draw x f,w,w',_,e=>by
  simp only [doD] at e;obtain ⟨n,e⟩:=jG e;try dsimp only at e
  split at e
  ·cases e
  ·split at e
   ·cases e
   ·cases e;exact News.none rfl rfl
 | .send to sg sp rk a b,w,w',to',e=>by
  simp only [doD] at e;simp only [Dd.toOk] at to';obtain ⟨n,e⟩:=jG e;try dsimp only at e
  split at e
  ·cases e
  ·rename_i c
   obtain ⟨x,e⟩:=jG e;obtain ⟨y,e⟩:=jG e;try dsimp only at e
   split at e
   ·cases e
   ·rename_i c2
    cases e;refine ⟨?_,[_],rfl,aE _,fun q hq=>?_,oz _ _⟩
    ·show w.se<=w.se + 1;omega
    ·rw [aH.mp hq];exact ⟨rfl,Int.le_refl _,(by show w.se < w.se + 1; omega),(by show h.t < h.t + n; omega),(by show h.t + n<=10 ^ 12; omega),to'.1,to'.2⟩
 | .ife f t e',w,w',to,e=>by
  simp only [doD] at e;simp only [Dd.toOk] at to;obtain ⟨n,e⟩:=jG e;try dsimp only at e
  simp only [Dd.size]
  split at e
  ·exact ((m5 e' _ _ to.2 e).le (by omega)).from rfl rfl
  ·exact ((m5 t _ _ to.1 e).le (by omega)).from rfl rfl
 | .fin,w,w',_,e=>by
  simp only [doD] at e
  cases e;exact News.none rfl rfl
theorem m5 {m:Int} {h:Ev} {ds:List Int}:∀ (D:Ds) (w w':Wk),D.toOk m->doS h ds D w=.ok w'->News m h D.size w w'
 | .nil,w,w',_,e=>by
  simp only [doS] at e
  cases e;exact News.none rfl rfl
 | .cons d r,w,w',to,e=>by
  simp only [doS] at e;simp only [Ds.toOk] at to;simp only [Ds.size]
  split at e
  ·rename_i w1 e1
   exact (FQ d _ _ to.1 e1).trans (m5 r _ _ to.2 e)
  ·cases e
end
structure zk (m:Nat) (e:Ev):Prop where
 to0:0<=e.to
 to1:e.to < m
 wt:Wo e.t
 wa:Wo e.a
 wb:Wo e.b
structure ROk (m:Nat) (r:RS):Prop where
 len:r.sts.length=m
 fall:lW r.pd
 ev:∀ e∈r.pd,zk m e
 cn:∀ e∈r.pd,e.fr=-1\/∃ (i:Nat) (s:Sta),e.fr=(i:Int)/\r.sts[i]?=some s/\e.c < s.se
theorem tD {pd:List Ev} {h:Ev} (f:lW (pd++[h])):lW pd/\∀ e∈pd,HT.lexLt h.key e.key=true:=by
 obtain ⟨f1,_,f3⟩:=gZ.mp f;exact ⟨f1,fun e he=>f3 e he h (aH.mpr rfl)⟩
theorem vw {pd:List Ev} {h:Ev} (e:pd.getLast?=some h):pd=pd.dropLast++[h]:=by
 obtain ⟨ys,rfl⟩:=List.getLast?_eq_some_iff.mp e;rw [BI]
theorem vx {a b:Ev} (h:a.fr≠b.fr\/a.c≠b.c):a.key≠b.key:=fun z=>by
 unfold Ev.key at z;simp only [BJ] at z
 rcases h with h | h
 ·exact h z.2.2.1
 ·exact h z.2.2.2.1
theorem p7:∀ {xs pd:List Ev},lW pd->(∀ x∈xs,∀ y∈pd,x.key≠y.key)->xs.Pairwise (fun a b=>a.key≠b.key)->lW (qN xs pd)
 | [],_,h,_,_=>h
 | x :: xs,pd,h,n,p=>by
  obtain ⟨p1,p2⟩:=gJ.mp p;refine p7 (xs:=xs) (tw h fun y hy=>n x aD y hy) (fun z hz y hy=>?_) p2
  rcases ay.mp ((mZ x pd).mem_iff.mp hy) with e | e
  ·rw [e];exact fun q=>p1 z hz q.symm
  ·exact n z (ah _ hz) y e
structure Did (Ms:List MD) (r:RS) (h:Ev) (M:MD) (s:Sta):Prop where
 pd:r.pd=r.pd.dropLast++[h]
 hM:Ms[h.to.toNat]?=some M
 hs:r.sts[h.to.toNat]?=some s
theorem rL {Ms:List MD} {r:RS} {h:Ev} {M:MD} {s:Sta} (d:Did Ms r h M s) {e:Flt} (q:doS h M.ds (jE M.hs h.sg) s.w=.error e):g9 Ms r=({r with pd:=r.pd.dropLast,sp:=some (.flt e h)},[]):=by
 have l:r.pd.getLast?=some h:=by
  rw [d.pd,BK]
 unfold g9;rw [l];dsimp only;rw [d.hM,d.hs];dsimp only;rw [q]
theorem uK {Ms:List MD} {r:RS} {h:Ev} {M:MD} {s:Sta} (d:Did Ms r h M s) {w:Wk} (q:doS h M.ds (jE M.hs h.sg) s.w=.ok w):g9 Ms r=(⟨r.sts.set h.to.toNat ⟨w.bx,w.qu,w.dr,w.se⟩,qN w.out r.pd.dropLast,some h,if w.en=true then some (.fin h) else none⟩,[⟨h,wrB M.bs w,wrQ M.qs w,w.out⟩]):=by
 have l:r.pd.getLast?=some h:=by
  rw [d.pd,BK]
 unfold g9;rw [l];dsimp only;rw [d.hM,d.hs];dsimp only;rw [q]
theorem zl {m:Nat} {Ms:List MD} {r:RS} {h:Ev} {M:MD} {s:Sta} (k:ROk m r) (d:Did Ms r h M s) {n:Nat} {w:Wk} (N:News m h n s.w w):(∀ x∈w.out,∀ y∈r.pd.dropLast,x.key≠y.key)/\w.out.Pairwise (fun a b=>a.key≠b.key)/\(∀ x∈w.out,JW m h s.se w.se x):=by
 obtain ⟨s1,new,e,ln,ho,hp⟩:=N;have e:w.out=new:=e;rw [e];have hin:h∈r.pd:=by
  rw [d.pd];exact bL _ (aH.mpr rfl)
 have h0:=(k.ev h hin).to0;refine ⟨fun x hx y hy=>?_,hp.imp fun z=>vx (.inr (by omega)),ho⟩;have o:=ho x hx;have yin:y∈r.pd:=fZ _ hy
 rcases k.cn y yin with z | ⟨i,s',z1,z2,z3⟩
 ·refine vx (.inl ?_);rw [o.fr,z];omega
 ·by_cases c:y.fr=h.to
  ·refine vx (.inr ?_);have ei:h.to.toNat=i:=by omega
   have:=d.hs;rw [ei,z2] at this
   cases this;have c0:s.se<=x.c:=o.c0;omega
  ·refine vx (.inl ?_);rw [o.fr];exact fun q=>c q.symm
theorem FR {m:Nat} {Ms:List MD} {r:RS} {h:Ev} {M:MD} {s:Sta} (k:ROk m r) (d:Did Ms r h M s) {n:Nat} {w:Wk} (q:doS h M.ds (jE M.hs h.sg) s.w=.ok w) (N:News m h n s.w w) (wo:∀ e∈w.out,Wo e.a/\Wo e.b):ROk m (g9 Ms r).1:=by
 rw [uK d q];obtain ⟨n1,n2,n3⟩:=zl k d N;have f:=k.fall;rw [d.pd] at f;obtain ⟨f1,f2⟩:=tD f;refine ⟨by rw [HA]; exact k.len,p7 f1 n1 n2,fun e he=>?_,fun e he=>?_⟩
 ·rcases bU.mp ((gQ _ _).mem_iff.mp he) with z | z
  ·obtain ⟨a,b,c,d',e',f',g'⟩:=n3 e z;have hin:h∈r.pd:=by
    rw [d.pd];exact bL _ (aH.mpr rfl)
   have ht:=(k.ev h hin).wt;have w1:(10:Int) ^ 15=1000000000000000:=by decide
   have w2:(10:Int) ^ 12=1000000000000:=by decide
   refine ⟨f',g',?_,(wo e z).1,(wo e z).2⟩;unfold Wo at ht |-;omega
  ·exact k.ev e (fZ _ z)
 ·have lt:h.to.toNat < r.sts.length:=(aC.mp d.hs).1;have hin:h∈r.pd:=by
   rw [d.pd];exact bL _ (aH.mpr rfl)
  have h0:=(k.ev h hin).to0
  rcases bU.mp ((gQ _ _).mem_iff.mp he) with z | z
  ·obtain ⟨a,b,c,_⟩:=n3 e z;refine .inr ⟨h.to.toNat,_,by omega,fb lt,c⟩
  ·rcases k.cn e (fZ _ z) with y | ⟨i,s',z1,z2,z3⟩
   ·exact .inl y
   ·by_cases c:h.to.toNat=i
    ·subst c;have es:s=s':=cQ (d.hs.symm.trans z2);rw [<- es] at z3;refine .inr ⟨_,_,z1,fb lt,?_⟩;have s1:s.se<=w.se:=N.se;show e.c < w.se;omega
    ·exact .inr ⟨i,s',z1,by rw [iU c]; exact z2,z3⟩
theorem C7 {m:Nat} {Ms:List MD} {r:RS} {h:Ev} {M:MD} {s:Sta} (k:ROk m r) (d:Did Ms r h M s) {e:Flt} (q:doS h M.ds (jE M.hs h.sg) s.w=.error e):ROk m (g9 Ms r).1:=by
 rw [rL d q];have f:=k.fall;rw [d.pd] at f;exact ⟨k.len,(tD f).1,fun e he=>k.ev e (fZ _ he),fun e he=>k.cn e (fZ _ he)⟩
structure Ex where
 l:List aa
 b:Hp
def Ex.In (ex:Ex) (a:aa):Prop:=a∈ex.l\/∃ o,ex.b a=some o/\∀ xs,o≠.tup xs
instance:Membership Addr Ex:=⟨fun ex a=>ex.In a⟩
def Ex.add (ex:Ex) (a:aa):Ex:=⟨a :: ex.l,ex.b⟩
theorem Ex.here {ex:Ex} {a:aa}:a∈ex.add a:=.inl aD
theorem Ex.more {ex:Ex} {a b:aa} (h:b∈ex):b∈ex.add a:=h.elim (fun z=>.inl (ah _ z)) .inr
theorem Ex.or {ex:Ex} {a b:aa} (h:b∈ex.add a):b=a\/b∈ex:=h.elim (fun z=>(ay.mp z).elim .inl fun y=>.inr (.inl y)) fun z=>.inr (.inr z)
open Classical in
noncomputable def Hid (ex:Ex) (G:Hp):Hp:=fun a=>if a∈ex then none else G a
section
variable {ex:Ex} {G G':Hp} {a:aa} {o:HO}
theorem n6 (e:Hid ex G a=some o):a∉ex:=fun m=>by
 unfold Hid at e;rw [if_pos m] at e
 cases e
theorem gW (n:a∉ex):Hid ex G a=G a:=if_neg n
theorem jf:bj (Hid ex G) G:=fun b o e=>by
 rw [gW (n6 e)] at e;exact e
theorem jX (m:a∈ex):Hid ex (upd G a o)=Hid ex G:=by
 funext b
 unfold Hid
 by_cases c:b∈ex
 ·rw [if_pos c,if_pos c]
 ·rw [if_neg c,if_neg c,aK fun z=>c (by rw [z]; exact m)]
theorem ie (s:bj G G'):bj (Hid ex G) (Hid ex G'):=fun b o e=>by
 rw [gW (n6 e)];exact s _ _ (jf _ _ e)
theorem LD (s:∀ b o,G b=some o->b∉ex->G' b=some o):bj (Hid ex G) (Hid ex G'):=fun b o e=>by
 rw [gW (n6 e)];exact s _ _ (jf _ _ e) (n6 e)
theorem iw {xs:List V} (nt:∀ a∈ex,∃ o,G a=some o/\∀ xs,o≠.tup xs) (h:G a=some (.tup xs)):Hid ex G a=some (.tup xs):=by
 rw [gW fun m=>by
  obtain ⟨o,e,n⟩:=nt a m;rw [e] at h
  cases h;exact n _ rfl]
 exact h
theorem pJ (n:G a=none):Hid (ex.add a) (upd G a o)=Hid ex G:=by
 funext b
 unfold Hid
 by_cases c:b=a
 ·rw [c,if_pos Ex.here]
  by_cases d:a∈ex
  ·rw [if_pos d]
  ·rw [if_neg d,n]
 ·by_cases d:b∈ex
  ·rw [if_pos d,if_pos (Ex.more d)]
  ·rw [if_neg d,if_neg (fun z=>(Ex.or z).elim c d),aK c]
theorem zm:bj (Hid (ex.add a) G) (Hid ex G):=fun b o e=>by
 rw [gW fun m=>n6 e (Ex.more m)];exact jf _ _ e
end
abbrev zo (h:Ev):HO:=.tup [.int h.t,.int h.r,.int h.fr,.int h.c]
def RcIn (F:Hp) (v:V) (q:Rec):Prop:=∃ (rc k wl od:aa) (ws1 ws2 vs:List V) (qa:List (Str×aa)),v=.ref rc/\F rc=some (.tup [.ref k,.int q.h.to,.str q.h.sg,.int q.h.a,.int q.h.b,.ref wl,.ref od])/\F k=some (zo q.h) /\
 F wl=some (.lst (ws1++ws2))/\aI (vm F) ws1 q.wb/\aI (Ax F) ws2 qa/\gA F qa q.wq/\F od=some (.lst vs)/\aI (gK F) vs q.out
theorem RcIn.same {F F':Hp} (s:bj F F') {v:V} {q:Rec} (h:RcIn F v q):RcIn F' v q:=by
 obtain ⟨rc,k,wl,od,ws1,ws2,vs,qa,e,h1,h2,h3,h4,h5,h6,h7,h8⟩:=h;exact ⟨rc,k,wl,od,ws1,ws2,vs,qa,e,s _ _ h1,s _ _ h2,s _ _ h3,Paired.mono (fun _ _ z=>z.keep fun a xs e=>s _ _ e) h4,Paired.mono (fun _ _ z=>z.keep fun a xs e=>s _ _ e) h5,h6.same s,s _ _ h7,Paired.mono (fun _ _ z=>z.same s) h8⟩
def pK:Flt->Str
 | .nought=>"nought"
 | .great=>"great"
 | .full=>"full"
 | .dry=>"dry"
 | .span=>"span"
 | .late=>"late"
def IH (F:Hp) (v:V):Option Ev->Prop
 | none=>v=.non
 | some h=>∃ k,v=.ref k/\F k=some (zo h)
def vy (F:Hp) (v:V):Stp->Prop
 | .fin h=>∃ t k,v=.ref t/\F t=some (.tup [.str "end",.ref k])/\F k=some (zo h)
 | .flt e h=>∃ t k,v=.ref t/\F t=some (.tup [.str "fault",.str (pK e),.ref k])/\F k=some (zo h)
def II (F:Hp) (v:V):Option Stp->Prop
 | none=>v=.non
 | some s=>vy F v s
def vz (F:Hp) (v:V):End->Prop
 | .empty=>∃ t,v=.ref t/\F t=some (.tup [.str "empty"])
 | .cut=>∃ t,v=.ref t/\F t=some (.tup [.str "cut"])
 | .stp s=>vy F v s
theorem IH.same {F F':Hp} (s:bj F F') {v:V}:∀ {q:Option Ev},IH F v q->IH F' v q
 | none,h=>h
 | some _,⟨k,e,h⟩=>⟨k,e,s _ _ h⟩
theorem vy.same {F F':Hp} (s:bj F F') {v:V}:∀ {q:Stp},vy F v q->vy F' v q
 | .fin _,⟨t,k,e,h1,h2⟩=>⟨t,k,e,s _ _ h1,s _ _ h2⟩
 | .flt _ _,⟨t,k,e,h1,h2⟩=>⟨t,k,e,s _ _ h1,s _ _ h2⟩
theorem II.same {F F':Hp} (s:bj F F') {v:V}:∀ {q:Option Stp},II F v q->II F' v q
 | none,h=>h
 | some _,h=>vy.same s h
theorem vz.same {F F':Hp} (s:bj F F') {v:V}:∀ {q:End},vz F v q->vz F' v q
 | .empty,⟨t,e,h⟩=>⟨t,e,s _ _ h⟩
 | .cut,⟨t,e,h⟩=>⟨t,e,s _ _ h⟩
 | .stp _,h=>vy.same s h
def jJ (m s p r e:V):List (Str×V):=[("model",m),("states",s),("pending",p),("reached",r),("stopped",e)]
structure CoT (K:ae) (mg:Str->Option af) (CC:aa):Prop where
 cl:Cls K CC
 nM:eV K CC "model"
 nS:eV K CC "states"
 nP:eV K CC "pending"
 nR:eV K CC "reached"
 nE:eV K CC "stopped"
 m:mg "Course"=some (.ref CC)
theorem co_m (m s p r e:V):(jJ m s p r e).lookup ("model":Str)=some m:=rfl
theorem LF (m s p r e:V):(jJ m s p r e).lookup ("states":Str)=some s:=rfl
theorem LH (m s p r e:V):(jJ m s p r e).lookup ("pending":Str)=some p:=rfl
theorem LI (m s p r e:V):(jJ m s p r e).lookup ("stopped":Str)=some e:=rfl
theorem AF (m s p r e:V):(jJ m s p r e).length < 1000:=by show 5 < 1000; decide
theorem LJ (m s p r e:V):dM "stopped" e (dM "reached" r (dM "pending" p (dM "states" s (dM "model" m []))))=jJ m s p r e:=rfl
theorem IJ (m s p r e r':V):dM "reached" r' (jJ m s p r e)=jJ m s p r' e:=rfl
theorem BL (m s p r e e':V):dM "stopped" e' (jJ m s p r e)=jJ m s p r e':=rfl
theorem JX (m s p r e:V) {x:Str} (hx:(["model","states","pending","reached","stopped"]:List Str).contains x=false):(jJ m s p r e).lookup x=none:=by
 have z:∀ k∈(["model","states","pending","reached","stopped"]:List Str),(x == k)=false:=fun k hk=>beq_eq_false_iff_ne.mpr fun e=>by
  rw [e,p5.mpr hk] at hx
  cases hx
 unfold jJ;rw [dX (z _ (by simp)),dX (z _ (by simp)),dX (z _ (by simp)),dX (z _ (by simp)),dX (z _ (by simp))];rfl
def tE (CM:aa) (Ms:List MD) (H:Hp) (m:aa):Prop:=∃ (dx ml:aa) (fs:List (Str×V)),H m=some (.ins CM dx fs)/\fs.lookup ("machines":Str)=some (.ref ml)/\C6 (Ms.length:Int) H ml Ms
theorem tE.same {CM:aa} {Ms:List MD} {H H':Hp} (s:bj H H') {m:aa} (h:tE CM Ms H m):tE CM Ms H' m:=by
 obtain ⟨dx,ml,fs,h1,h2,h3⟩:=h;exact ⟨dx,ml,fs,s _ _ h1,h2,h3.same s⟩
abbrev StA (CS:aa) (F:Hp):aa->Sta->Prop:=fun a s=>mh CS F a s.bx s.qu s.dr s.se
structure lM (CC CS:aa) (Ms:List MD) (Hb:Hp) (ex:Ex) (G:Hp) (co m sl pl:aa) (r:RS):Prop where
 ok:ROk Ms.length r
 sm:∀ b o,Hb b=some o->b≠co/\b≠sl/\b≠pl/\G b=some o
 i1:co∈ex
 i2:sl∈ex
 i3:pl∈ex
 n1:co≠sl
 n2:co≠pl
 n3:sl≠pl
 hc:∃ dx rv sv,G co=some (.ins CC dx (jJ (.ref m) (.ref sl) (.ref pl) rv sv))/\IH (Hid ex G) rv r.re/\II (Hid ex G) sv r.sp
 hs:∃ ss:List aa,G sl=some (.lst (ss.map V.ref))/\aI (StA CS (Hid ex G)) ss r.sts
 hp:∃ ps,G pl=some (.lst ps)/\aI (gK (Hid ex G)) ps r.pd
 wk:∀ (i:Nat) (M:MD) (s:Sta),Ms[i]?=some M->r.sts[i]?=some s->qq M.bs M.qs s.w
 nt:∀ a∈ex,∃ o,G a=some o/\∀ xs,o≠.tup xs
theorem mh.same' {CS:aa} {H H':Hp} (s:bj H H') {st:aa} {bx:List (Str×Int)} {qu:List (Str×List Int)} {dr:Nat} {se:Int} (h:mh CS H st bx qu dr se):mh CS H' st bx qu dr se:=by
 obtain ⟨dx,bd,qd,qa,h1,h2,h3,h4⟩:=h;exact ⟨dx,bd,qd,qa,s _ _ h1,s _ _ h2,s _ _ h3,h4.same s⟩
section
variable {CC CS:aa} {Ms:List MD} {Hb G G':Hp} {ex:Ex} {co m sl pl:aa} {r:RS}
theorem lM.same (c:lM CC CS Ms Hb ex G co m sl pl r) (s:bj G G'):lM CC CS Ms Hb ex G' co m sl pl r:=by
 obtain ⟨dx,rv,sv,h1,h2,h3⟩:=c.hc;obtain ⟨ss,h4,h5⟩:=c.hs;obtain ⟨ps,h6,h7⟩:=c.hp;have f:=ie (ex:=ex) s;exact ⟨c.ok,fun b o e=>(c.sm b o e).imp id (w9 id (w9 id (s _ _))),c.i1,c.i2,c.i3,c.n1,c.n2,c.n3,⟨dx,rv,sv,s _ _ h1,h2.same f,h3.same f⟩,⟨ss,s _ _ h4,Paired.mono (fun _ _ z=>mh.same' f z) h5⟩,⟨ps,s _ _ h6,Paired.mono (fun _ _ z=>z.same f) h7⟩,c.wk,fun a ha=>by
  obtain ⟨o,e,n⟩:=c.nt a ha;exact ⟨o,s _ _ e,n⟩⟩
theorem lM.more (c:lM CC CS Ms Hb ex G co m sl pl r) {a:aa} {o:HO} (n:G a=none) (no:∀ xs,o≠.tup xs):lM CC CS Ms Hb (ex.add a) (upd G a o) co m sl pl r:=by
 obtain ⟨dx,rv,sv,h1,h2,h3⟩:=c.hc;obtain ⟨ss,h4,h5⟩:=c.hs;obtain ⟨ps,h6,h7⟩:=c.hp;refine ⟨c.ok,?_,Ex.more c.i1,Ex.more c.i2,Ex.more c.i3,c.n1,c.n2,c.n3,⟨dx,rv,sv,bz h1 (aG h1 n),?_,?_⟩,⟨ss,bz h4 (aG h4 n),?_⟩,⟨ps,bz h6 (aG h6 n),?_⟩,c.wk,fun b hb=>?_⟩
 ·exact fun b o e=>(c.sm b o e).imp id (w9 id (w9 id fun z=>bz z (aG z n)))
 ·rw [pJ n];exact h2
 ·rw [pJ n];exact h3
 ·rw [pJ n];exact h5
 ·rw [pJ n];exact h7
 ·rcases Ex.or hb with z | z
  ·rw [z];exact ⟨o,ag,no⟩
  ·obtain ⟨o',e,n'⟩:=c.nt b z;exact ⟨o',bz e (aG e n),n'⟩
theorem lM.less {a:aa} (c:lM CC CS Ms Hb (ex.add a) G co m sl pl r) (a1:co≠a) (a2:sl≠a) (a3:pl≠a):lM CC CS Ms Hb ex G co m sl pl r:=by
 obtain ⟨dx,rv,sv,h1,h2,h3⟩:=c.hc;obtain ⟨ss,h4,h5⟩:=c.hs;obtain ⟨ps,h6,h7⟩:=c.hp;have f:bj (Hid (ex.add a) G) (Hid ex G):=zm;have out:∀ {b:aa},b∈ex.add a->b≠a->b∈ex:=fun m n=>(Ex.or m).elim (fun z=>absurd z n) id;exact ⟨c.ok,c.sm,out c.i1 a1,out c.i2 a2,out c.i3 a3,c.n1,c.n2,c.n3,⟨dx,rv,sv,h1,h2.same f,h3.same f⟩,⟨ss,h4,Paired.mono (fun _ _ z=>mh.same' f z) h5⟩,⟨ps,h6,Paired.mono (fun _ _ z=>z.same f) h7⟩,c.wk,fun b hb=>c.nt b (Ex.more hb)⟩
theorem lM.upd (c:lM CC CS Ms Hb ex G co m sl pl r) {a:aa} {o:HO} (ha:a∈ex) (ab:Hb a=none) (a1:co≠a) (a2:sl≠a) (a3:pl≠a) (no:∀ xs,o≠.tup xs):lM CC CS Ms Hb ex (L2.upd G a o) co m sl pl r:=by
 obtain ⟨dx,rv,sv,h1,h2,h3⟩:=c.hc;obtain ⟨ss,h4,h5⟩:=c.hs;obtain ⟨ps,h6,h7⟩:=c.hp;refine ⟨c.ok,?_,c.i1,c.i2,c.i3,c.n1,c.n2,c.n3,⟨dx,rv,sv,bz h1 a1,?_,?_⟩,⟨ss,bz h4 a2,?_⟩,⟨ps,bz h6 a3,?_⟩,c.wk,fun b hb=>?_⟩
 ·exact fun b o e=>(c.sm b o e).imp id (w9 id (w9 id fun z=>bz z (aG e ab)))
 ·rw [jX ha];exact h2
 ·rw [jX ha];exact h3
 ·rw [jX ha];exact h5
 ·rw [jX ha];exact h7
 ·by_cases z:b=a
  ·rw [z];exact ⟨o,ag,no⟩
  ·obtain ⟨o',e,n'⟩:=c.nt b hb;exact ⟨o',bz e z,n'⟩
end
theorem Paired.snoc_inv {α β:Type} {R:α->β->Prop}:∀ {ys:List β} {xs:List α} {y:β},aI R xs (ys++[y])->∃ xs' x,xs=xs'++[x]/\aI R xs' ys/\R x y
 | [],xs,y,p=>by
  cases p with
  | cons a b =>
   cases b;exact ⟨[],_,rfl,.nil,a⟩
 | z :: ys,xs,y,p=>by
  cases p with
  | cons a b =>
   obtain ⟨xs',x,e,p',r⟩:=Paired.snoc_inv (ys:=ys) b;exact ⟨_ :: xs',x,by rw [e]; rfl,.cons a p',r⟩
theorem jn {α β:Type} {R:α->β->Prop}:∀ {xs:List α} {ys:List β} {i:Nat} {y:β},aI R xs ys->ys[i]?=some y->∃ x,xs[i]?=some x/\R x y
 | _,_,i,y,.nil,h=>by simp at h
 | _,_,0,y,.cons a b,h=>by
  simp at h;subst h;exact ⟨_,rfl,a⟩
 | _,_,i + 1,y,.cons a b,h=>by
  obtain ⟨x,h1,h2⟩:=jn (i:=i) (y:=y) b (by simpa using h);exact ⟨x,by simpa using h1,h2⟩
theorem Paired.set {α β:Type} {R:α->β->Prop}:∀ {xs:List α} {ys:List β},aI R xs ys->∀ (i:Nat) {x:α} {y:β},R x y->aI R (xs.set i x) (ys.set i y)
 | _,_,.nil,i,x,y,h=>.nil
 | _,_,.cons a b,0,x,y,h=>.cons h b
 | _,_,.cons a b,i + 1,x,y,h=>.cons a (Paired.set b i h)
theorem C8 {α β:Type} {f:α->β} {xs ys:List β} (p:xs.Perm ys):∀ us:List α,us.map f=ys->∃ us':List α,us'.Perm us/\us'.map f=xs:=by
 induction p with
 | nil =>
  intro us e;have:us=[]:=List.map_eq_nil_iff.mp e;subst this;exact ⟨[],jt _,rfl⟩
 | cons x _ ih =>
  intro us e
  cases us with
  | nil=>cases e
  | cons u us =>
   rw [cu] at e;obtain ⟨e1,e2⟩:=dY e;obtain ⟨us',p',m'⟩:=ih us e2;exact ⟨u :: us',p'.cons u,by rw [cu,m',e1]⟩
 | swap x y l =>
  intro us e
  match us,e with
  | a :: b :: r,e =>
   rw [cu,cu] at e;obtain ⟨e1,e⟩:=dY e;obtain ⟨e2,e3⟩:=dY e;exact ⟨b :: a :: r,List.Perm.swap _ _ _,by rw [cu,cu,e1,e2,e3]⟩
 | trans _ _ ih1 ih2 =>
  intro us e;obtain ⟨u1,p1,m1⟩:=ih2 us e;obtain ⟨u2,p2,m2⟩:=ih1 u1 m1;exact ⟨u2,p2.trans p1,m2⟩
theorem t7 {α β:Type} {R:α->β->Prop}:∀ {us:List (α×β)},(∀ u∈us,R u.1 u.2)->aI R (us.map (·.1)) (us.map (·.2))
 | [],_=>.nil
 | u :: us,h=>.cons (h u aD) (t7 fun v hv=>h v (ah _ hv))
theorem vA {α β:Type} {R:α->β->Prop} {xs:List α} {ys:List β} (p:aI R xs ys):(xs.zip ys).map (·.1)=xs/\(xs.zip ys).map (·.2)=ys/\∀ u∈xs.zip ys,R u.1 u.2:=by
 induction p with
 | nil=>exact ⟨rfl,rfl,fun u hu=>by cases hu⟩
 | cons a _ ih =>
  obtain ⟨h1,h2,h3⟩:=ih;refine ⟨by rw [gI,cu,h1],by rw [gI,cu,h2],fun u hu=>?_⟩;rw [gI] at hu
  rcases ay.mp hu with z | z
  ·rw [z];exact a
  ·exact h3 u z
theorem AG {G:Hp} {v:V} {e:Ev} (h:gK G v e):Am G (v,e.key):=by
 obtain ⟨t,k,e1,h1,h2⟩:=h;exact ⟨t,k,_,e1,h1,h2⟩
theorem xa {F:Hp} {us:List (V×Ev)} {es:List Ev} {zs:List (V×List Int)} (hu:∀ u∈us,gK F u.1 u.2) (p:zs.Perm (us.map fun u=>(u.1,u.2.key))) (f:pI zs) (q:(us.map (·.2)).Perm es) (fe:lW es):∃ ps,zs.map (·.1)=ps/\aI (gK F) ps es:=by
 obtain ⟨us',p',m'⟩:=C8 p us rfl;have h:=t7 (R:=gK F) (us:=us') fun u hu'=>hu u (p'.mem_iff.mp hu');have fe':lW (us'.map (·.2)):=by
  rw [<- m'] at f;have f2:=jP.mp f;exact jP.mpr f2
 rw [wZ fe' fe ((p'.map _).trans q)] at h;refine ⟨us'.map (·.1),?_,h⟩;rw [<- m',eg];rfl
theorem IK {F G:Hp} (s:bj F G) {pl:aa} {v:V} {ps:List V} {pd:List Ev} {e:Ev} {Q:VK} {E:XK} (hp:G pl=some (.lst ps)) (pr:aI (gK F) ps pd) (fe:lW pd) (hv:gK F v e) (nw:∀ y∈pd,e.key≠y.key) (len:pd.length<=10000000)
  (k:∀ ps',aI (gK F) ps' (vv e pd)->Q .non (upd G pl (.lst ps'))):BH [.ref pl,v] G Q E:=by
 obtain ⟨z1,z2,z3⟩:=vA pr;have ln:=aX pr;obtain ⟨t,kk,rfl,h1,h2⟩:=id hv;refine ⟨pl,t,(ps.zip pd).map fun u=>(u.1,u.2.key),e.key,rfl,?_,fun z hz=>?_,?_,(AG hv).imp fun a ⟨k,ra,e1,e2,e3⟩=>⟨k,ra,e1,s _ _ e2,s _ _ e3⟩,?_,?_,fun zs' p f=>?_⟩
 ·rw [eg];have:((fun x:V×List Int=>x.1) ∘ fun u:V×Ev=>(u.1,u.2.key))=(fun u:V×Ev=>u.1):=rfl;rw [this,z1];exact hp
 ·obtain ⟨u,hu,rfl⟩:=cB.mp hz;obtain ⟨a,k,ra,e1,e2,e3⟩:=AG (z3 u hu);exact ⟨a,k,ra,e1,s _ _ e2,s _ _ e3⟩
 ·refine jP.mpr ?_;have f2:=fe;rw [<- z2] at f2;exact jP.mp f2
 ·intro m;obtain ⟨x,hx,ex⟩:=cB.mp m;obtain ⟨u,hu,rfl⟩:=cB.mp hx;refine nw u.2 ?_ ex.symm;rw [<- z2];exact qV hu
 ·rw [ai,pF];omega
 ·have hA:∀ u∈(V.ref t,e) :: ps.zip pd,gK F u.1 u.2:=fun u hu=>by
   rcases ay.mp hu with z | z
   ·rw [z];exact hv
   ·exact z3 u z
  have hB:(((V.ref t,e) :: ps.zip pd).map (·.2)).Perm (vv e pd):=by
   rw [cu,z2];exact (mZ e pd).symm
  obtain ⟨ps',e',pr'⟩:=xa hA p f hB (tw fe nw);rw [e'];exact k ps' pr'
section
variable {P:aL} {w:bN} {K:ae} {mg:Str->Option af} {base:cF} {f:aa} {fd:cw}
theorem FS:cv ["self"] ["self"] (aQ nJ):={}
theorem C9 (F:Fun K "word" "Great.word" nJ f fd):pf P w K mg base CX0 1 f fd ["self"] (pH "great"):=by
 refine F.okH FS (fun vs H Q E h=>?_) (fun cdv A outer s H vs Q E h=>?_)
 ·obtain ⟨a,rfl,_⟩:=h;rfl
 obtain ⟨a,rfl,q⟩:=h;exact ⟨_,aF (bQ cA),q⟩
theorem IM:cv ["self"] ["self"] (aQ pj):={}
theorem FT (F:Fun K "word" "Full.word" pj f fd):pf P w K mg base CX0 1 f fd ["self"] (pH "full"):=by
 refine F.okH IM (fun vs H Q E h=>?_) (fun cdv A outer s H vs Q E h=>?_)
 ·obtain ⟨a,rfl,_⟩:=h;rfl
 obtain ⟨a,rfl,q⟩:=h;exact ⟨_,aF (bQ cA),q⟩
theorem LK:cv ["self"] ["self"] (aQ qM):={}
theorem IP (F:Fun K "word" "Dry.word" qM f fd):pf P w K mg base CX0 1 f fd ["self"] (pH "dry"):=by
 refine F.okH LK (fun vs H Q E h=>?_) (fun cdv A outer s H vs Q E h=>?_)
 ·obtain ⟨a,rfl,_⟩:=h;rfl
 obtain ⟨a,rfl,q⟩:=h;exact ⟨_,aF (bQ cA),q⟩
theorem IQ:cv ["self"] ["self"] (aQ pA):={}
theorem FU (F:Fun K "word" "Span.word" pA f fd):pf P w K mg base CX0 1 f fd ["self"] (pH "span"):=by
 refine F.okH IQ (fun vs H Q E h=>?_) (fun cdv A outer s H vs Q E h=>?_)
 ·obtain ⟨a,rfl,_⟩:=h;rfl
 obtain ⟨a,rfl,q⟩:=h;exact ⟨_,aF (bQ cA),q⟩
theorem IR:cv ["self"] ["self"] (aQ pB):={}
theorem FV (F:Fun K "word" "Late.word" pB f fd):pf P w K mg base CX0 1 f fd ["self"] (pH "late"):=by
 refine F.okH IR (fun vs H Q E h=>?_) (fun cdv A outer s H vs Q E h=>?_)
 ·obtain ⟨a,rfl,_⟩:=h;rfl
 obtain ⟨a,rfl,q⟩:=h;exact ⟨_,aF (bQ cA),q⟩
end
def BM {α:Type} (a b c d e f:α):Flt->α
 | .nought=>a
 | .great=>b
 | .full=>c
 | .dry=>d
 | .span=>e
 | .late=>f
theorem gA.hid {ex:Ex} {G:Hp} {qa:List (Str×aa)} {qu:List (Str×List Int)} (n:∀ a∈qa.map (·.2),a∉ex) (q:gA G qa qu):gA (Hid ex G) qa qu:=
 gA.keep (L:=⟨0,0,0,0,0,0,0,0,0,0,.non,.non,qa⟩) (fun a u e m=>by rw [gW (n a m)]; exact e) (fun _ h=>h) q
theorem gK.hid {ex:Ex} {G:Hp} (nt:∀ a∈ex,∃ o,G a=some o/\∀ xs,o≠.tup xs) {v:V} {e:Ev} (h:gK G v e):gK (Hid ex G) v e:=by
 obtain ⟨t,k,e1,h1,h2⟩:=h;exact ⟨t,k,e1,iw nt h1,iw nt h2⟩
theorem Dg.sta {CD CS:aa} {bs qs:List Str} {H0 G:Hp} {L:Lay} {h:Ev} {ds:List Int} {w:Wk} (g:Dg CD CS bs qs H0 G L h ds w) {ex:Ex} (n:∀ a∈L.all,a∉ex):mh CS (Hid ex G) L.st w.bx w.qu w.dr w.se:=
 ⟨L.dxs,L.bd,L.qd,L.qa,by rw [gW (n _ JK)]; exact g.hst,by rw [gW (n _ JL)]; exact g.hb,by rw [gW (n _ in_qd)]; exact g.hq,g.hl.hid fun a m=>n a (in_l m)⟩
theorem FJ.told {CD CS:aa} {bs qs:List Str} {H G:Hp} {L:Lay} {h:Ev} {ds:List Int} {w:Wk} {t rc wl:aa} {ws1 ws2:List V} {qa:List (Str×aa)} (d:FJ CD CS bs qs H G L h ds w t rc wl ws1 ws2 qa) {ex:Ex} (nt:∀ a∈ex,∃ o,H a=some o/\∀ xs,o≠.tup xs) :
  ∃ vs,G L.od=some (.lst vs)/\L.od∉ex/\aI (gK (Hid ex G)) vs w.out/\RcIn (Hid ex G) (.ref rc) ⟨h,wrB bs w,wrQ qs w,w.out⟩:=by
 have ntG:∀ a∈ex,∃ o,G a=some o/\∀ xs,o≠.tup xs:=fun a ha=>by
  obtain ⟨o,e,n⟩:=nt a ha;exact ⟨o,d.sm _ _ e,n⟩
 have nx:∀ {a},H a=none->a∉ex:=fun {a} z m=>by
  obtain ⟨o,e,_⟩:=nt a m;rw [z] at e
  cases e
 obtain ⟨H0,s0,g⟩:=d.dg;obtain ⟨vs,o1,o2⟩:=g.ho;obtain ⟨k,h1,h2⟩:=d.hrc;have nod:L.od∉ex:=nx (none_of s0 (g.fr _ JM));have pv':=Paired.mono (fun _ _ z=>gK.hid ntG z) o2;refine ⟨vs,o1,nod,pv',rc,k,wl,L.od,ws1,ws2,vs,qa,rfl,iw ntG h1,iw ntG (d.sm _ _ h2),?_,Paired.mono (fun _ _ z=>z.keep fun a xs e=>iw ntG e) d.wr.b,Paired.mono (fun _ _ z=>z.keep fun a xs e=>iw ntG e) d.wr.q,d.wr.l.hid fun a m=>nx (d.wr.fr a (ah _ m)),?_,pv'⟩
 ·rw [gW (nx (d.wr.fr _ aD))];exact d.wr.hl
 ·rw [gW nod];exact o1
theorem qq.clean {bs qs:List Str} {w:Wk} (k:qq bs qs w):qq bs qs (w0 w.bx w.qu w.dr w.se):=
 ⟨k.kb,k.kq,k.nb,k.nq,k.wb,k.wq,jO,(fun x hx=>by cases hx),jO,(fun x hx=>by cases hx),(fun x hx=>by cases hx),k.fw⟩
theorem BN {P:Ds->Prop} {hs:List (Str×Ds)} (h:∀ q∈hs,P q.2) (n:P .nil) (sg:Str):P (jE hs sg):=by
 unfold jE
 cases e:hs.lookup sg with
 | none=>exact n
 | some d=>exact h _ (pG e)
def ToldR (F:Hp) (v:V):List Rec->Prop
 | []=>v=.non
 | q :: _=>RcIn F v q
def Oth (ex:Ex) (co sl pl:aa) (H G:Hp):Prop:=∀ a,a≠co->a≠sl->a≠pl->∀ o,H a=some o->G a=some o
theorem AH {Hb H G:Hp} {co sl pl:aa} (s:∀ b o,Hb b=some o->b≠co/\b≠sl/\b≠pl/\H b=some o) (ot:∀ a,a≠co->a≠sl->a≠pl->∀ o,H a=some o->G a=some o):∀ b o,Hb b=some o->b≠co/\b≠sl/\b≠pl/\G b=some o:=fun b o e=>by
 obtain ⟨n1,n2,n3,z⟩:=s b o e;exact ⟨n1,n2,n3,ot b n1 n2 n3 o z⟩
theorem cm.some {ι:Type} {P:aL} {w:bN} {K:ae} {mg:Str->Option af} {base:cF} {CX:CXT} {k:Nat} {f:aa} {fd:cw} {ps:List Str} {sp:ι->Sp} (F:∀ i,cm P w K mg base CX k f fd ps (sp i)) :
  cm P w K mg base CX k f fd ps (fun vs H Q E=>∃ i,sp i vs H Q E):=
 ⟨fun vs H Q E ⟨i,q⟩=>(F i).len vs H Q E q,fun A outer s H args us vs Q E hr he hb hv ⟨i,hs⟩=>(F i).run A outer s H args us vs Q E hr he hb hv hs⟩
theorem IS {X:Cx} {o value:cZ} {f:Str} {ta tv:TE} {pos pos':Pos} (K:ae) (hK:X.K=K) (ha:PE X o ta) (hv:PE X value tv) (hs:tM value (some (.Attribute o f pos')) pos.line X.env=pure false):PS X (.Assign [.Attribute o f pos'] value pos) (sFld K ta tv f):=by
 rw [<- hK];exact gb ha hv hs
theorem rM {σ:St} {H:Hp} {Q:List V->Hp->Prop} (h:Q [] H):zR σ H Q:=h
theorem AI {D:kL} {σ:St} {H:Hp} (h:D.nx σ H):mw D σ H:=h
theorem Da (xs:List Ev) (x:Ev) (pd:List Ev):qN (xs++[x]) pd=vv x (qN xs pd):=by
 unfold qN;rw [Ff];rfl
section
variable {P:aL} {w:bN} {K:ae} {mg:Str->Option af} {base:cF} {f fPu fDn CC CM CS CD CF:aa} {fd fdPu fdDn:cw} {cf fW:Flt->aa} {fdW:Flt->cw}
seal PS PSs PE PA PT PW PI PG PGs PC
inductive JY (CC CS:aa) (vs:List V) (H:Hp) (Q:VK) (_e:XK):Prop where
 | mk (Ms:List MD) (Hb:Hp) (ex:Ex) (co m sl pl:aa) (r:RS) (left:Int) (_:vs=[.ref co,.int left]) (_:lM CC CS Ms Hb ex H co m sl pl r) (_:∀ v G,bj H G->((km r left=none/\v=.non)\/∃ e,km r left=some e/\vz (Hid ex G) v e)->Q v G):JY CC CS vs H Q _e
def spEd (CC CS:aa):Sp:=fun vs H Q _e=>JY CC CS vs H Q _e
theorem scEd:cv ["self","left"] ["self","left"] (aQ gk):={}
theorem ok_ed (M:Mt K CC "ending_due" "Course.ending_due" gk ["self","left"] f fd) (T:CoT K mg CC):cm P w K mg base CX0 1 f fd ["self","left"] (spEd CC CS):=by
 refine M.F.ok scEd (fun vs H Q E h=>?_) (fun cdv A outer s H vs Q E hr h=>?_)
 ·obtain ⟨Ms,Hb,ex,co,m,sl,pl,r,left,rfl,_⟩:=h;rfl
 obtain ⟨Ms,Hb,ex,co,m,sl,pl,r,left,rfl,c,q⟩:=h;refine ⟨_,ak (cS (uO (A0 (cW (pv 0) rfl))) (aF (bQ (cW (pv 0) rfl))) cq)
  (ak (cS (DY (uR (cW (pv 0) rfl) (fun _=>rfl))) (aF (bQ (cR (av cA ao)))) cq)
  (ak (cS (bM op_le (pv 1) aw (cj _)) (aF (bQ (cR (av cA ao)))) cq)
  (aF (bQ xn)))),?_⟩
 obtain ⟨dx,rv,sv,h1,h2,h3⟩:=c.hc;obtain ⟨ps,h6,h7⟩:=c.hp;have nl:=aX h7;have ntn:∀ {G:Hp},bj H G->∀ a∈ex,∃ o,G a=some o/\∀ xs,o≠.tup xs:=fun s a ha=>by
  obtain ⟨o,e,n⟩:=c.nt a ha;exact ⟨o,s _ _ e,n⟩
 cases hsp:r.sp with
 | some st =>
  rw [hsp] at h3;have due:km r left=some (.stp st):=by
   unfold km;rw [hsp]
  obtain ⟨t,rfl⟩:∃ t,sv=.ref t:=by
   cases st with
   | fin h =>
    obtain ⟨t,_,e,_⟩:=h3;exact ⟨t,e⟩
   | flt e h =>
    obtain ⟨t,_,e,_⟩:=h3;exact ⟨t,e⟩
  refine ⟨_,rfl,co,CC,dx,_,_,rfl,h1,T.cl,T.nE,LI _ _ _ _ _,_,rfl,iF ?_⟩;exact ⟨_,rfl,co,CC,dx,_,_,rfl,h1,T.cl,T.nE,LI _ _ _ _ _,q _ _ (bj.refl _) (.inr ⟨_,due,h3⟩)⟩
 | none =>
  rw [hsp] at h3;have h3:sv=.non:=h3;subst h3;refine ⟨_,rfl,co,CC,dx,_,_,rfl,h1,T.cl,T.nE,LI _ _ _ _ _,_,rfl,gi ?_⟩;refine ⟨_,rfl,co,CC,dx,_,_,rfl,h1,T.cl,T.nP,LH _ _ _ _ _,_,.inl ⟨_,SqL.of h6,rfl⟩,?_⟩
  cases ps with
  | nil =>
   have e0:r.pd=[]:=List.eq_nil_of_length_eq_zero nl.symm;refine iF ⟨Az,fun t ht=>q _ _ (aA ht _) (.inr ⟨.empty,?_,t,rfl,iw (ntn (aA ht _)) ag⟩)⟩;unfold km;rw [hsp,e0];rfl
  | cons x xs =>
   have e0:r.pd.isEmpty=false:=by
    cases z:r.pd with
    | nil =>
     rw [z] at nl
     cases nl
    | cons _ _=>rfl
   refine gi ?_;refine ⟨_,rfl,_,_,rfl,rfl,_,rfl,gS (fun cc=>?_) (fun cc=>?_)⟩
   ·have cc:=of_decide_eq_true cc;refine ⟨Az,fun t ht=>q _ _ (aA ht _) (.inr ⟨.cut,?_,t,rfl,iw (ntn (aA ht _)) ag⟩)⟩;unfold km;rw [hsp];dsimp only;rw [e0,if_neg (by decide),if_pos cc]
   ·have cc:¬ left<=0:=fun z=>cc (decide_eq_true z);refine q _ _ (bj.refl _) (.inl ⟨?_,rfl⟩);unfold km;rw [hsp];dsimp only;rw [e0,if_neg (by decide),if_neg cc]
inductive FW (CC CM CS:aa) (vs:List V) (H:Hp) (Q:VK) (_e:XK):Prop where
 | mk (Ms:List MD) (Hb:Hp) (ex:Ex) (co m sl pl:aa) (r:RS) (_:vs=[.ref co]) (_:tE CM Ms Hb m) (_:lM CC CS Ms Hb ex H co m sl pl r) (_:r.sp=none) (_:r.pd≠[]) (_:r.pd.length<=9000000) (_:∀ v G,lM CC CS Ms Hb ex G co m sl pl (g9 Ms r).1->bj (Hid ex H) (Hid ex G)->Oth ex co sl pl H G->ToldR (Hid ex G) v (g9 Ms r).2->Q v G):FW CC CM CS vs H Q _e
def JZ (CC CM CS:aa):Sp:=fun vs H Q _e=>FW CC CM CS vs H Q _e
abbrev nD1:List Str:=["self","happening","at","told","fault","sent"]
theorem Dc:cv nD1 ["self"] (aQ ic):={}
theorem LL {n j:Nat} (h:j < n):ixN n (j:Int)=some j:=by
 unfold ixN;rw [if_pos (by omega),if_pos (by omega)];simp
theorem LM (M:Mt K CC "do_one" "Course.do_one" ic ["self"] f fd) (DPu:Df K mg "put_in" rD ["falling","thing"] fPu fdPu) (GPu:cm P w K mg base CX0 2 fPu fdPu ["falling","thing"] BH)
  (DDn:Df K mg "done" xV ["model","state","happening"] fDn fdDn) (GDn:∀ bq:List Str×List Str,cm P w K mg base (CXo P w) 37 fDn fdDn ["model","state","happening"] (FK cf CM CD CS bq.1 bq.2 5))
  (mW:∀ e,xx K (cf e) "word" (fW e)) (bW:∀ e,Binds K (fdW e) ["self"] []) (GW:∀ e,pf P w K mg base CX0 1 (fW e) (fdW e) ["self"] (pH (pK e))) (XN:∀ e,vU K (cf e)) (mF:mg "Fault"=some (.ref CF)) (hx:∀ e,dC K (.ref (cf e)) (.ref CF)=some true) (T:CoT K mg CC) (TM:MdT K mg CM CS) :
  cm P w K mg base CX0 38 f fd ["self"] (JZ CC CM CS):=by
 have GD:=cm.some GDn;refine M.F.ok Dc (fun vs H Q E h=>?_) (fun cdv A outer s H vs Q E hr h=>?_)
 ·obtain ⟨Ms,Hb,ex,co,m,sl,pl,r,rfl,_⟩:=h;rfl
 obtain ⟨Ms,Hb,ex,co,m,sl,pl,r,rfl,hM,c,hsp,hpd,hln,k⟩:=h;have r1:d5 1 _:=hr.mono (by decide);have r2:d5 2 _:=hr.mono (by decide);obtain ⟨dx,rv,sv,hc0,hre,hsp0⟩:=c.hc;obtain ⟨ss,hs0,hss⟩:=c.hs;obtain ⟨ps,hp0,hps⟩:=c.hp
 -- the last one
 obtain ⟨h,hl⟩:∃ h,r.pd.getLast?=some h:=by
  cases e:r.pd.getLast? with
  | none=>exact absurd (x8.mp e) hpd
  | some h=>exact ⟨h,rfl⟩
 have spl:=vw hl;have hin:h∈r.pd:=by
  rw [spl];exact bL _ (aH.mpr rfl)
 have eo:=c.ok.ev h hin;obtain ⟨j,hj⟩:∃ j:Nat,h.to=(j:Int):=⟨h.to.toNat,by have:=eo.to0; omega⟩;have jl:j < Ms.length:=by have:=eo.to1; omega
 have ej:h.to.toNat=j:=by omega
 have js:j < r.sts.length:=by rw [c.ok.len]; exact jl
 obtain ⟨Mm,hMm⟩:∃ M,Ms[j]?=some M:=⟨_,aj jl⟩;obtain ⟨st0,hst0⟩:∃ s,r.sts[j]?=some s:=⟨_,aj js⟩;have d:Did Ms r h Mm st0:=⟨spl,by rw [ej]; exact hMm,by rw [ej]; exact hst0⟩;obtain ⟨ps',v,hpsv,hps',hv⟩:∃ ps' v,ps=ps'++[v]/\aI (gK (Hid ex H)) ps' r.pd.dropLast/\gK (Hid ex H) v h:=by
  rw [spl] at hps;exact Paired.snoc_inv hps
 obtain ⟨th,kh,rfl,hth,hkh⟩:=id hv
 -- the bJ and the machine
 obtain ⟨dxm,ml,fs,hm,hfs,xs,hml,hxs⟩:=id hM;obtain ⟨mv,hmv,hMo⟩:=jn hxs hMm;obtain ⟨sta,hsta,hSt⟩:=jn hss hst0;have dk:=BN (P:=fun D=>D.toOk (Ms.length:Int)/\D.deep<=4/\D.size<=3 * ddz 4) hMo.hk ⟨by simp only [Ds.toOk],by simp only [Ds.deep]; omega,by simp only [Ds.size]; omega⟩ h.sg;have dz:3 * ddz 4<=5000:=by decide
 refine ⟨_,ak (aZ (i:=1) Dc.nd rfl (Or.inl rfl) (KM cy yy yz KN (cW (pv 0) rfl)))
  (ak (aZ (i:=2) Dc.nd rfl (Or.inl rfl) (bT cL (pv 1) aw (fun _ _=>rfl)))
  (ak (HW (fun C σ G=>∃ (e:Flt) (u3 u4 u5:Option V),C=cf e/\σ=[some (.ref co),some (.ref th),some (.int h.to),u3,u4,u5]/\doS h Mm.ds (jE Mm.hs h.sg) st0.w=.error e/\bj (upd H pl (.lst ps')) G)
    (fun pins=>aF (aZ (i:=3) Dc.nd rfl (Or.inl rfl) (EJ GD hr (by rfl) DDn.m DDn.F.kp DDn.b Ab (av (jF K (by rfl) (pv 0) (by rfl)) (av (bT (FM K (by rfl)) (jF K (by rfl) (pv 0) (by rfl)) (pv 2) (fun _ _=>rfl)) (av (pv 1) ao))))))
    (K3 4 (by rfl) mF Dc.nd rfl rfl (fun ea=>ak (IS K (by rfl) (pv 0) (cR (av cA (av (CK (ι:=Flt) (C:=cf) (fm:=fW) (fd:=fdW) (sp:=fun e=>pH (pK e)) (pv 4) XN mW GW ⟨rfl,r1.dp,r1.un⟩ bW bY) (av (bT (lV K (by rfl)) (pv 1) aw (fun _ _=>rfl)) ao)))) rfl) (aF (bQ xn))) HH)
    cq)
  (ak (qD (bT cL (pv 3) aw (fun _ _=>rfl)) (zI (cW (pv 0) rfl) (pv 2) uX))
  (ak (gb (pv 0) (bT cL (pv 1) aw (fun _ _=>rfl)) rfl)
  (ak (jy dy rfl (i0 (bT cL (bT cL (pv 3) aw (fun _ _=>rfl)) aw (fun _ _=>rfl))) (cP (i:=5) Dc.nd rfl (Or.inl rfl)) (aF (eK (aO GPu r2 (by rfl) DPu.m DPu.F.kp DPu.b .nil bY (av (cW (pv 0) rfl) (av (pv 5) ao))))))
  (ak (cS (sy (bT cL (pv 3) aw (fun _ _=>rfl))) (aF (gb (pv 0) (cR (av cA (av (bT cL (pv 1) aw (fun _ _=>rfl)) ao))) rfl)) cq)
  (aF (bQ (bT cL (pv 3) aw (fun _ _=>rfl)))))))))),?_⟩
 subst hpsv
 -- it is taken out
 refine bR (cI ?_);refine ⟨_,rfl,co,CC,dx,_,_,rfl,hc0,T.cl,T.nP,LH _ _ _ _ _,.inl ⟨rfl,_,SqL.of hp0⟩,pl,_,.ref th,rfl,rfl,hp0,?_,?_⟩
 ·rw [ax];show (ps'++[V.ref th])[ps'.length + 1 - 1]?=_;rw [ES,c9 (aE _),um];rfl
 rw [BI];refine aU ?_;dsimp only;have F1:Hid ex (upd H pl (.lst ps'))=Hid ex H:=jX c.i3;have hc1:upd H pl (.lst ps') co=some (.ins CC dx (jJ (.ref m) (.ref sl) (.ref pl) rv sv)):=bz hc0 c.n2;have hs1:upd H pl (.lst ps') sl=some (.lst (ss.map V.ref)):=bz hs0 c.n3;have hp1:upd H pl (.lst ps') pl=some (.lst ps'):=ag;have nt1:∀ a∈ex,∃ o,upd H pl (.lst ps') a=some o/\∀ xs,o≠.tup xs:=fun a ha=>by
  by_cases z:a=pl
  ·rw [z];exact ⟨_,ag,fun xs z=>by cases z⟩
  ·obtain ⟨o,e,n⟩:=c.nt a ha;exact ⟨o,bz e z,n⟩
 have ot1:Oth ex co sl pl H (upd H pl (.lst ps')):=fun a _ _ z o e=>bz e z;revert F1 hc1 hs1 hp1 nt1 ot1;generalize upd H pl (.lst ps')=G1;intro F1 hc1 hs1 hp1 nt1 ot1;have sF1:bj (Hid ex H) G1:=by
  rw [<- F1];exact jf
 have sB1:bj Hb G1:=fun b o e=>by
  obtain ⟨n1,n2,n3,z⟩:=c.sm b o e;exact ot1 b n1 n2 n3 o z
 have hth1:=sF1 _ _ hth;refine bR (cI ?_);refine ⟨_,rfl,th,_,_,_,rfl,rfl,SqT.of hth1,rfl,?_⟩;refine aU ?_;dsimp only;refine bR ?_;refine ⟨?_,fun C σ' G6 hl ht=>?_⟩
 ·refine cI ?_;have at1:atI (ss.map V.ref) h.to=some (.ref sta):=by
   rw [hj];exact gR (by rw [bS,hsta]; rfl)
  refine ⟨_,rfl,co,CC,dx,_,_,rfl,hc1,T.cl,T.nM,co_m _ _ _ _ _,_,rfl,co,CC,dx,_,_,rfl,hc1,T.cl,T.nS,LF _ _ _ _ _,_,rfl,sl,_,_,_,rfl,rfl,SqL.of hs1,at1,_,rfl,?_⟩;refine ⟨(Mm.bs,Mm.qs),m,dxm,ml,sta,fs,xs,.ref th,mv,h,Mm.ds,Mm.hs,st0.bx,st0.qu,st0.dr,st0.se,rfl,sB1 _ _ hm,hfs,sB1 _ _ hml,hv.same sF1,by rw [hj]; exact gR hmv,(hMo.same sB1).ma,mh.same' sF1 hSt,c.wk j Mm st0 hMm hst0,eo.wt,eo.wa,eo.wb,by omega,by omega,?_⟩
  cases ew:doS h Mm.ds (jE Mm.hs h.sg) (w0 st0.bx st0.qu st0.dr st0.se) with
  | error e =>
   exact fun G6 s6=>⟨_,rfl,e,_,_,_,rfl,rfl,ew,s6⟩
  | ok w' =>
   intro G6 L t6 rc wl ws1 ws2 qa Dn;have ew':doS h Mm.ds (jE Mm.hs h.sg) st0.w=.ok w':=ew;rw [uK d ew'] at k;have N:=m5 (m:=(Ms.length:Int)) _ _ _ dk.1 ew';obtain ⟨nw1,nw2,nw3⟩:=zl c.ok d N;obtain ⟨H0,s0,g⟩:=Dn.dg;have rok:=FR c.ok d ew' N g.ok.wo;rw [uK d ew'] at rok;obtain ⟨vs,hod,nod,hvs,hrec⟩:=Dn.told nt1;have sm6:=Dn.sm;obtain ⟨kk,hrc,_⟩:=Dn.hrc;have nx:∀ a∈L.all,a∉ex:=fun a ha z=>by
    obtain ⟨o,e,_⟩:=nt1 a z;have:=g.fr a ha;rw [s0 _ _ e] at this
    cases this
   have hsn:=g.sta nx;have f6:bj (Hid ex H) (Hid ex G6):=by
    rw [<- F1];exact ie sm6
   have sF6:bj (Hid ex G6) G6:=jf;have hc6:=sm6 _ _ hc1;have hs6:=sm6 _ _ hs1;have hp6:=sm6 _ _ hp1;have ot6:Oth ex co sl pl H G6:=fun a n1 n2 n3 o e=>sm6 _ _ (ot1 a n1 n2 n3 o e);have nt6:∀ a∈ex,∃ o,G6 a=some o/\∀ xs,o≠.tup xs:=fun a ha=>by
    obtain ⟨o,e,n⟩:=nt1 a ha;exact ⟨o,sm6 _ _ e,n⟩
   refine aU ?_;refine AI ?_;dsimp only;refine AI ?_;dsimp only
   -- the new state
   have jl2:j < (ss.map V.ref).length:=(aC.mp (show (ss.map V.ref)[j]?=some (.ref sta) by rw [bS,hsta]; rfl)).1;refine bR (cI ?_);refine ⟨_,rfl,t6,_,_,_,rfl,rfl,SqT.of Dn.ht,rfl,?_⟩;refine ⟨_,rfl,co,CC,dx,_,_,rfl,hc6,T.cl,T.nS,LF _ _ _ _ _,_,rfl,sl,_,_,j,rfl,rfl,hs6,by rw [hj]; exact LL jl2,?_⟩
   -- its key is reached
   have hth7:upd G6 sl (.lst ((ss.map V.ref).set j (.ref L.st))) th=some (.tup [.ref kh,.int h.to,.str h.sg,.int h.a,.int h.b]):=bz (sm6 _ _ hth1) (mr (sm6 _ _ hth1) hs6 (by intro z; cases z));have hc7:upd G6 sl (.lst ((ss.map V.ref).set j (.ref L.st))) co=some (.ins CC dx (jJ (.ref m) (.ref sl) (.ref pl) rv sv)):=bz hc6 c.n1;refine bR ?_;refine ⟨_,rfl,th,_,_,_,rfl,rfl,SqT.of hth7,rfl,_,rfl,co,CC,dx,_,rfl,hc7,T.cl,T.nR,AF _ _ _ _ _,?_⟩;rw [IJ];have F8:Hid ex (upd (upd G6 sl (.lst ((ss.map V.ref).set j (.ref L.st)))) co (.ins CC dx (jJ (.ref m) (.ref sl) (.ref pl) (.ref kh) sv)))=Hid ex G6:=by
    rw [jX c.i1,jX c.i2]
   have hc8:upd (upd G6 sl (.lst ((ss.map V.ref).set j (.ref L.st)))) co (.ins CC dx (jJ (.ref m) (.ref sl) (.ref pl) (.ref kh) sv)) co=some (.ins CC dx (jJ (.ref m) (.ref sl) (.ref pl) (.ref kh) sv)):=ag;have hs8:upd (upd G6 sl (.lst ((ss.map V.ref).set j (.ref L.st)))) co (.ins CC dx (jJ (.ref m) (.ref sl) (.ref pl) (.ref kh) sv)) sl=some (.lst ((ss.map V.ref).set j (.ref L.st))):=bz ag c.n1.symm;have hp8:upd (upd G6 sl (.lst ((ss.map V.ref).set j (.ref L.st)))) co (.ins CC dx (jJ (.ref m) (.ref sl) (.ref pl) (.ref kh) sv)) pl=some (.lst ps'):=bz (bz hp6 c.n3.symm) c.n2.symm;have ot8:Oth ex co sl pl H (upd (upd G6 sl (.lst ((ss.map V.ref).set j (.ref L.st)))) co (.ins CC dx (jJ (.ref m) (.ref sl) (.ref pl) (.ref kh) sv))):=fun a n1 n2 n3 o e=>bz (bz (ot6 a n1 n2 n3 o e) n2) n1;have nt8:∀ a∈ex,∃ o,upd (upd G6 sl (.lst ((ss.map V.ref).set j (.ref L.st)))) co (.ins CC dx (jJ (.ref m) (.ref sl) (.ref pl) (.ref kh) sv)) a=some o/\∀ xs,o≠.tup xs:=fun a ha=>by
    by_cases z:a=co
    ·rw [z];exact ⟨_,ag,fun xs z=>by cases z⟩
    ·by_cases y:a=sl
     ·rw [y];exact ⟨_,hs8,fun xs z=>by cases z⟩
     ·obtain ⟨o,e,n⟩:=nt6 a ha;exact ⟨o,bz (bz e y) z,n⟩
   revert F8 hc8 hs8 hp8 ot8 nt8;generalize upd (upd G6 sl (.lst ((ss.map V.ref).set j (.ref L.st)))) co (.ins CC dx (jJ (.ref m) (.ref sl) (.ref pl) (.ref kh) sv))=G8;intro F8 hc8 hs8 hp8 ot8 nt8;have sF8:bj (Hid ex G6) G8:=by
    rw [<- F8];exact jf
   have ht6:Hid ex G6 t6=some (.tup [.ref L.st,.ref rc,.bl w'.en]):=iw nt6 Dn.ht;have hrc6:Hid ex G6 rc=_:=iw nt6 hrc;have hod6:Hid ex G6 L.od=some (.lst vs):=by
    rw [gW nod];exact hod
   have hth6:Hid ex G6 th=_:=iw nt6 (sm6 _ _ hth1);have hkh6:Hid ex G6 kh=some (zo h):=f6 _ _ hkh
   -- what was sent is put in
   have fd':lW r.pd.dropLast:=by
    have z:=c.ok.fall;rw [spl] at z;exact (tD z).1
   have nopl:L.od≠pl:=fun z=>nod (by rw [z]; exact c.i3);refine bR ?_;refine ⟨_,rfl,t6,_,_,_,rfl,rfl,SqT.of (sF8 _ _ ht6),rfl,rc,_,_,_,rfl,rfl,SqT.of (sF8 _ _ hrc6),rfl,L.od,rfl,⟨_,SqL.of (sF8 _ _ hod6)⟩,kM (K:=K) (a:=L.od) (xs:=vs) (fun i σ G'=>∃ (u4 u:Option V) (ps:List V),σ=[some (.ref co),some (.ref th),some (.int h.to),some (.ref t6),u4,u]/\G' pl=some (.lst ps)/\aI (gK (Hid ex G6)) ps (qN (w'.out.take i) r.pd.dropLast)/\But pl G8 G')
    ⟨_,_,ps',rfl,hp8,by rw [lU]; exact Paired.mono (fun _ _ z=>z.same f6) hps',But.refl _ _⟩ ?_ ?_ ?_⟩
   ·rintro i σ G' _ ⟨_,_,_,rfl,_,_,b⟩;exact SqL.of (b _ _ (sF8 _ _ hod6) nopl)
   ·rintro i x σ G' hi ⟨u4,u,ps,rfl,g1,g2,b⟩;obtain ⟨e,he,hxe⟩:=mX hvs hi;have sFb:bj (Hid ex G6) G':=fun a o z=>b _ _ (sF8 _ _ z) fun y=>n6 z (by rw [y]; exact c.i3);have mem:e∈w'.out:=bX he;have tk:w'.out.take (i + 1)=w'.out.take i++[e]:=by
     rw [gm,he];rfl
    have fo:∀ x∈w'.out.take i,x.key≠e.key:=fun x hx=>by
     have pw:=nw2;rw [<- kf (i + 1) w'.out,tk] at pw;exact (gZ.mp (gZ.mp pw).1).2.2 x hx e (aH.mpr rfl)
    have fall:lW (qN (w'.out.take i) r.pd.dropLast):=p7 fd' (fun x hx=>nw1 x (qA hx)) (nw2.sublist (tQ _ _));refine ⟨_,rfl,co,CC,dx,_,_,rfl,b _ _ hc8 c.n2,T.cl,T.nP,LH _ _ _ _ _,_,rfl,?_⟩;refine rM ?_;show BH [V.ref pl,x] G' _ _;refine IK (F:=Hid ex G6) sFb g1 g2 fall hxe (fun y hy=>?_) ?_ fun ps2 hps2=>?_
    ·rcases bU.mp ((gQ _ _).mem_iff.mp hy) with z | z
     ·exact fun q=>fo y z q.symm
     ·exact nw1 e mem y z
    ·rw [(gQ _ _).length_eq,ax,kx,aT];obtain ⟨new,e1,e2,_⟩:=N.ex;have e1:w'.out=new:=e1;have:=dk.2.2;rw [e1];omega
    ·refine ⟨_,_,ps2,rfl,ag,?_,b.trans (But.upd pl _ _)⟩;rw [tk,Da];exact hps2
   rintro σ G9 ⟨u4,u,ps9,rfl,g1,g2,b⟩;have lvs:vs.length=w'.out.length:=aX hvs;rw [lvs,dQ] at g2;have F9:bj (Hid ex G6) (Hid ex G9):=by
    rw [<- F8];exact LD fun a o e n=>b _ _ e fun y=>n (by rw [y]; exact c.i3)
   have sF9:bj (Hid ex G6) G9:=F9.trans jf;have hc9:=b _ _ hc8 c.n2;have hs9:=b _ _ hs8 c.n3;have ot9:Oth ex co sl pl H G9:=fun a n1 n2 n3 o e=>b _ _ (ot8 a n1 n2 n3 o e) n3;have nt9:∀ a∈ex,∃ o,G9 a=some o/\∀ xs,o≠.tup xs:=fun a ha=>by
    by_cases z:a=pl
    ·rw [z];exact ⟨_,g1,fun xs z=>by cases z⟩
    ·obtain ⟨o,e,n⟩:=nt8 a ha;exact ⟨o,b _ _ e z,n⟩
   have wk9:∀ (i:Nat) (M:MD) (s:Sta),Ms[i]?=some M->(r.sts.set h.to.toNat ⟨w'.bx,w'.qu,w'.dr,w'.se⟩)[i]?=some s->qq M.bs M.qs s.w:=fun i M s hi hs=>by
    rw [ej] at hs
    by_cases z:i=j
    ·rw [z,fb js] at hs;rw [z,hMm] at hi
     cases hs
     cases hi;exact g.ok.clean
    ·rw [iU (fun y=>z y.symm)] at hs;exact c.wk i M s hi hs
   have st9:∀ {F:Hp},bj (Hid ex G6) F->aI (StA CS F) (ss.set j L.st) (r.sts.set h.to.toNat ⟨w'.bx,w'.qu,w'.dr,w'.se⟩):=fun {F} s=>by
    rw [ej];exact Paired.set (Paired.mono (fun _ _ z=>mh.same' (f6.trans s) z) hss) j (mh.same' s hsn)
   have ems:(ss.map V.ref).set j (.ref L.st)=(ss.set j L.st).map V.ref:=List.map_set.symm;rw [ems] at hs9;refine bR ?_;refine ⟨_,rfl,t6,_,_,_,rfl,rfl,SqT.of (sF9 _ _ ht6),rfl,w'.en,rfl,?_⟩
   cases een:w'.en with
   | true =>
    rw [een] at k rok;refine iF ?_;refine ⟨_,rfl,th,_,_,_,rfl,rfl,SqT.of (sF9 _ _ hth6),rfl,lt2,fun tz htz=>?_⟩;have sz:=aA htz (.tup [.str "end",.ref kh]);refine ⟨_,rfl,co,CC,dx,_,rfl,sz _ _ hc9,T.cl,T.nE,AF _ _ _ _ _,?_⟩;rw [BL];have F10:Hid ex (upd (upd G9 tz (.tup [.str "end",.ref kh])) co (.ins CC dx (jJ (.ref m) (.ref sl) (.ref pl) (.ref kh) (.ref tz))))=Hid ex (upd G9 tz (.tup [.str "end",.ref kh])):=jX c.i1;have ntz:∀ a∈ex,∃ o,upd G9 tz (.tup [.str "end",.ref kh]) a=some o/\∀ xs,o≠.tup xs:=fun a ha=>by
     obtain ⟨o,e,n⟩:=nt9 a ha;exact ⟨o,sz _ _ e,n⟩
    have s10:bj (Hid ex G6) (Hid ex (upd G9 tz (.tup [.str "end",.ref kh]))):=F9.trans (ie sz);have htz10:Hid ex (upd G9 tz (.tup [.str "end",.ref kh])) tz=some (.tup [.str "end",.ref kh]):=iw ntz ag;have nco:∀ {a:aa} {o:HO},a≠co->upd G9 tz (.tup [.str "end",.ref kh]) a=some o->upd (upd G9 tz (.tup [.str "end",.ref kh])) co (.ins CC dx (jJ (.ref m) (.ref sl) (.ref pl) (.ref kh) (.ref tz))) a=some o:=fun n e=>bz e n;have s10':bj (Hid ex G6) (upd (upd G9 tz (.tup [.str "end",.ref kh])) co (.ins CC dx (jJ (.ref m) (.ref sl) (.ref pl) (.ref kh) (.ref tz)))):=by
     refine bj.trans s10 ?_;rw [<- F10];exact jf
    refine ⟨_,rfl,t6,_,_,_,rfl,rfl,SqT.of (s10' _ _ ht6),rfl,?_⟩;refine k _ _ ⟨rok,?_,c.i1,c.i2,c.i3,c.n1,c.n2,c.n3,⟨dx,_,_,ag,?_,?_⟩,⟨_,nco c.n1.symm (sz _ _ hs9),?_⟩,⟨_,nco c.n2.symm (sz _ _ g1),?_⟩,wk9,fun a ha=>?_⟩ ?_ ?_ ?_
    ·exact AH c.sm fun a n1 n2 n3 o e=>nco n1 (sz _ _ (ot9 a n1 n2 n3 o e))
    ·rw [F10];exact ⟨kh,rfl,s10 _ _ hkh6⟩
    ·rw [F10];exact ⟨tz,kh,rfl,htz10,s10 _ _ hkh6⟩
    ·rw [F10];exact st9 s10
    ·rw [F10];exact Paired.mono (fun _ _ z=>z.same s10) g2
    ·by_cases z:a=co
     ·rw [z];exact ⟨_,ag,fun xs z=>by cases z⟩
     ·obtain ⟨o,e,n⟩:=ntz a ha;exact ⟨o,nco z e,n⟩
    ·rw [F10];exact f6.trans s10
    ·exact fun a n1 n2 n3 o e=>nco n1 (sz _ _ (ot9 a n1 n2 n3 o e))
    ·rw [F10];exact hrec.same s10
   | false =>
    rw [een] at k rok;refine gi ?_;have sv0:sv=.non:=by
     rw [hsp] at hsp0;exact hsp0
    refine ⟨_,rfl,t6,_,_,_,rfl,rfl,SqT.of (sF9 _ _ ht6),rfl,?_⟩;exact k _ _ ⟨rok,AH c.sm ot9,c.i1,c.i2,c.i3,c.n1,c.n2,c.n3,⟨dx,_,_,hc9,⟨kh,rfl,F9 _ _ hkh6⟩,sv0⟩,⟨_,hs9,st9 F9⟩,⟨_,g1,Paired.mono (fun _ _ z=>z.same F9) g2⟩,wk9,nt9⟩ (f6.trans F9) ot9 (hrec.same F9)
 ·-- a fault
  obtain ⟨e,u3,u4,u5,rfl,rfl,ew,s6⟩:=ht;rw [rL d ew] at k;have rok:=C7 c.ok d ew;rw [rL d ew] at rok;refine .inl ⟨hx e,fun ea hea=>?_⟩;have sx:=aA hea (XO ea (cf e));have s7:=s6.trans sx;have f7:bj (Hid ex H) (Hid ex (upd G6 ea (XO ea (cf e)))):=by
   rw [<- F1];exact ie s7
  refine bR ?_;refine ⟨_,rfl,ea,e,rfl,ag,_,rfl,_,rfl,th,_,_,_,rfl,rfl,SqT.of (s7 _ _ hth1),rfl,(by show 3<=au; decide),fun tz htz=>?_⟩;have sz:=aA htz (.tup [.str "fault",.str (pK e),.ref kh]);have s8:=s7.trans sz;refine ⟨_,rfl,co,CC,dx,_,rfl,s8 _ _ hc1,T.cl,T.nE,AF _ _ _ _ _,?_⟩;rw [BL];revert htz sz s8;generalize upd G6 ea (XO ea (cf e))=G7 at f7 |-;intro htz sz s8;have F10:Hid ex (upd (upd G7 tz (.tup [.str "fault",.str (pK e),.ref kh])) co (.ins CC dx (jJ (.ref m) (.ref sl) (.ref pl) rv (.ref tz))))=Hid ex (upd G7 tz (.tup [.str "fault",.str (pK e),.ref kh])):=jX c.i1;have ntz:∀ a∈ex,∃ o,upd G7 tz (.tup [.str "fault",.str (pK e),.ref kh]) a=some o/\∀ xs,o≠.tup xs:=fun a ha=>by
   obtain ⟨o,e,n⟩:=nt1 a ha;exact ⟨o,s8 _ _ e,n⟩
  have s10:bj (Hid ex H) (Hid ex (upd G7 tz (.tup [.str "fault",.str (pK e),.ref kh]))):=f7.trans (ie sz);have htz10:Hid ex (upd G7 tz (.tup [.str "fault",.str (pK e),.ref kh])) tz=some (.tup [.str "fault",.str (pK e),.ref kh]):=iw ntz ag;refine k _ _ ⟨rok,?_,c.i1,c.i2,c.i3,c.n1,c.n2,c.n3,⟨dx,_,_,ag,?_,?_⟩,⟨ss,bz (s8 _ _ hs1) c.n1.symm,?_⟩,⟨ps',bz (s8 _ _ hp1) c.n2.symm,?_⟩,c.wk,fun a ha=>?_⟩ ?_ ?_ rfl
  ·exact AH c.sm fun a n1 n2 n3 o e=>bz (s8 _ _ (ot1 a n1 n2 n3 o e)) n1
  ·rw [F10];exact hre.same s10
  ·rw [F10];exact ⟨tz,kh,rfl,htz10,s10 _ _ hkh⟩
  ·rw [F10];exact Paired.mono (fun _ _ z=>mh.same' s10 z) hss
  ·rw [F10];exact Paired.mono (fun _ _ z=>z.same s10) hps'
  ·by_cases z:a=co
   ·rw [z];exact ⟨_,ag,fun xs z=>by cases z⟩
   ·obtain ⟨o,e,n⟩:=ntz a ha;exact ⟨o,bz e z,n⟩
  ·rw [F10];exact s10
  ·exact fun a n1 n2 n3 o e=>bz (s8 _ _ (ot1 a n1 n2 n3 o e)) n1
end
def rN (Ms:List MD):Prop:=∀ M∈Ms,∀ q∈M.hs,q.2.toOk (Ms.length:Int)/\q.2.deep<=4/\q.2.size<=3 * ddz 4
theorem tE.ok {CM:aa} {Ms:List MD} {H:Hp} {m:aa} (h:tE CM Ms H m):rN Ms:=by
 obtain ⟨dx,ml,fs,_,_,xs,_,p⟩:=h;intro M hM;obtain ⟨j,hj⟩:=dG hM;obtain ⟨x,_,z⟩:=jn p hj;exact z.hk
theorem LN {Ms:List MD} {r:RS} (k:ROk Ms.length r) (n:r.pd≠[]):∃ h M s,Did Ms r h M s:=by
 obtain ⟨h,hl⟩:∃ h,r.pd.getLast?=some h:=by
  cases e:r.pd.getLast? with
  | none=>exact absurd (x8.mp e) n
  | some h=>exact ⟨h,rfl⟩
 have spl:=vw hl;have hin:h∈r.pd:=by
  rw [spl];exact bL _ (aH.mpr rfl)
 have eo:=k.ev h hin;have jl:h.to.toNat < Ms.length:=by have:=eo.to1; have:=eo.to0; omega
 have js:h.to.toNat < r.sts.length:=by rw [k.len]; exact jl
 exact ⟨h,_,_,spl,aj jl,aj js⟩
inductive FX (Ms:List MD) (r:RS):Prop
 | err (h:Ev) (M:MD) (s:Sta) (e:Flt) (d:Did Ms r h M s) (q:doS h M.ds (jE M.hs h.sg) s.w=.error e) (eq:g9 Ms r=({r with pd:=r.pd.dropLast,sp:=some (.flt e h)},[]))
 | ok (h:Ev) (M:MD) (s:Sta) (w:Wk) (d:Did Ms r h M s) (q:doS h M.ds (jE M.hs h.sg) s.w=.ok w) (N:News (Ms.length:Int) h (3 * ddz 4) s.w w)
   (eq:g9 Ms r=(⟨r.sts.set h.to.toNat ⟨w.bx,w.qu,w.dr,w.se⟩,qN w.out r.pd.dropLast,some h,if w.en=true then some (.fin h) else none⟩,[⟨h,wrB M.bs w,wrQ M.qs w,w.out⟩]))
theorem uL {Ms:List MD} {r:RS} (mo:rN Ms) (k:ROk Ms.length r) (n:r.pd≠[]):FX Ms r:=by
 obtain ⟨h,M,s,d⟩:=LN k n;have dk:=BN (P:=fun D=>D.toOk (Ms.length:Int)/\D.deep<=4/\D.size<=3 * ddz 4) (mo M (bX d.hM)) ⟨by simp only [Ds.toOk],by simp only [Ds.deep]; omega,by simp only [Ds.size]; omega⟩ h.sg
 cases q:doS h M.ds (jE M.hs h.sg) s.w with
 | error e=>exact .err h M s e d q (rL d q)
 | ok w=>exact .ok h M s w d q ((m5 _ _ _ dk.1 q).le dk.2.2) (uK d q)
theorem m6 {r:RS} {left:Int} (h:km r left=none):r.sp=none/\r.pd≠[]/\0 < left:=by
 unfold km at h
 split at h
 ·cases h
 ·rename_i e
  split at h
  ·cases h
  ·rename_i c
   split at h
   ·cases h
   ·refine ⟨e,fun z=>?_,by omega⟩;rw [z] at c;exact c rfl
theorem LO {r:RS} {left:Int} {s:Stp} (h:r.sp=some s):km r left=some (.stp s):=by
 unfold km;rw [h]
theorem vB {Ms:List MD} {r:RS} (h:FX Ms r):(g9 Ms r).1.pd.length<=r.pd.length + 5000 * (g9 Ms r).2.length/\((∃ q,(g9 Ms r).2=[q])\/((g9 Ms r).2=[]/\∃ s,(g9 Ms r).1.sp=some s)):=by
 cases h with
 | err h M s e d q eq =>
  rw [eq];refine ⟨?_,.inr ⟨rfl,_,rfl⟩⟩;show r.pd.dropLast.length<=_;rw [kx];omega
 | ok h M s w d q N eq =>
  rw [eq];refine ⟨?_,.inl ⟨_,rfl⟩⟩;show (qN w.out r.pd.dropLast).length<=r.pd.length + 5000 * 1;rw [(gQ _ _).length_eq,ax,kx];obtain ⟨new,e1,e2,_⟩:=N.ex;have e1:w.out=new:=e1;have dz:3 * ddz 4<=5000:=by decide
  rw [e1];omega
def vC (Ms:List MD) (r:RS) (most:Int) (i:Nat) (e:End):Prop:=(∀ j,j < i->ROk Ms.length (itR Ms r j).1/\km (itR Ms r j).1 (most - (itR Ms r j).2.length)=none)/\km (itR Ms r i).1 (most - (itR Ms r i).2.length)=some e/\ROk Ms.length (itR Ms r i).1
def rMu (σ:St) (G:Hp):Nat:=match (σ[3]?:Option (Option V)),(σ[2]?:Option (Option V)) with
 | some (some .non),some (some (.ref rl))=>(match G rl with | some (.lst rs)=>1 + (2000 - rs.length) | _=>0)
 | _,_=>0
theorem BO {σ:St} {G:Hp} {rl:aa} {rs:List V} (h6:σ[3]?=some (some .non)) (h5:σ[2]?=some (some (.ref rl))) (hr:G rl=some (.lst rs)):rMu σ G=1 + (2000 - rs.length):=by
 unfold rMu;rw [h6,h5];dsimp only;rw [hr]
theorem BP {σ:St} {G:Hp} {t:aa} (h6:σ[3]?=some (some (.ref t))):rMu σ G=0:=by
 unfold rMu;rw [h6]
theorem vz.ref {F:Hp} {v:V}:∀ {e:End},vz F v e->∃ t,v=.ref t
 | .empty,⟨t,e,_⟩=>⟨t,e⟩
 | .cut,⟨t,e,_⟩=>⟨t,e⟩
 | .stp (.fin _),⟨t,_,e,_⟩=>⟨t,e⟩
 | .stp (.flt _ _),⟨t,_,e,_⟩=>⟨t,e⟩
section
variable {P:aL} {w:bN} {K:ae} {mg:Str->Option af} {base:cF} {f fE fO CC CM CS:aa} {fd fdE fdO:cw}
seal PS PSs PE PA PT PW PI PG PGs PC
structure Ran (CC CS:aa) (Ms:List MD) (Hb:Hp) (ex:Ex) (co m sl pl:aa) (r:RS) (most:Int) (H G:Hp) (t:aa) (i:Nat) (e:End):Prop where
 st:vC Ms r most i e
 cc:lM CC CS Ms Hb ex G co m sl pl (itR Ms r i).1
 sm:bj (Hid ex H) (Hid ex G)
 ot:Oth ex co sl pl H G
 rs:∃ rl en rvs,Hid ex G t=some (.tup [.ref rl,en])/\Hid ex G rl=some (.lst rvs)/\H rl=none/\aI (RcIn (Hid ex G)) rvs (itR Ms r i).2/\vz (Hid ex G) en e
inductive FY (CC CM CS:aa) (vs:List V) (H:Hp) (Q:VK) (_e:XK):Prop where
 | mk (Ms:List MD) (Hb:Hp) (ex:Ex) (co m sl pl:aa) (r:RS) (most:Int) (_:vs=[.ref co,.int most]) (_:tE CM Ms Hb m) (_:lM CC CS Ms Hb ex H co m sl pl r) (_:most<=1000) (_:r.pd.length<=1000000) (_:∀ G t i e,Ran CC CS Ms Hb ex co m sl pl r most H G t i e->Q (.ref t) G):FY CC CM CS vs H Q _e
def J0 (CC CM CS:aa):Sp:=fun vs H Q _e=>FY CC CM CS vs H Q _e
abbrev nRn:List Str:=["course","most","records","ending","record"]
theorem FZ:cv nRn ["course","most"] (aQ rE):={}
theorem LP (D:Df K mg "run_on" rE ["course","most"] f fd) (ME:Mt K CC "ending_due" "Course.ending_due" gk ["self","left"] fE fdE) (GE:cm P w K mg base CX0 1 fE fdE ["self","left"] (spEd CC CS))
  (MO:Mt K CC "do_one" "Course.do_one" ic ["self"] fO fdO) (GO:cm P w K mg base CX0 38 fO fdO ["self"] (JZ CC CM CS)) (T:CoT K mg CC) (B:Bl mg) :
  cm P w K mg base CX0 39 f fd ["course","most"] (J0 CC CM CS):=by
 refine D.F.ok FZ (fun vs H Q E h=>?_) (fun cdv A outer s H vs Q E hr h=>?_)
 ·obtain ⟨Ms,Hb,ex,co,m,sl,pl,r,most,rfl,_⟩:=h;rfl
 obtain ⟨Ms,Hb,ex,co,m,sl,pl,r,most,rfl,hM,c,hmost,hln,k⟩:=h;have r1:d5 1 _:=hr.mono (by decide);refine ⟨_,ak (aZ (i:=2) FZ.nd rfl (Or.inl rfl) (dh ao))
  (ak (aZ (i:=3) FZ.nd rfl (Or.inl rfl) (iq (pv 0) T.cl ME.m GE r1 ME.b .nil bY (av (pv 1) ao)))
  (ak (yG dy (uO (Ku (pv 3)))
   (ak (aZ (i:=4) FZ.nd rfl (Or.inl rfl) (rg (pv 0) T.cl MO.m GO hr MO.b .nil bY))
   (ak (cS (uO (A0 (pv 4))) (aF (eK (kQ cy cJ cK gN (pv 2) (av (pv 4) ao)))) cq)
   (aF (aZ (i:=3) FZ.nd rfl (Or.inl rfl) (iq (pv 0) T.cl ME.m GE r1 ME.b .nil bY (av (cC kN (pv 1) (dB (eR K (by rfl)) (by rfl) B.len cG (av (pv 2) ao))) ao)))))))
  (aF (bQ (cR (av (pv 2) (av (pv 3) ao))))))),?_⟩
 have cok:∀ {G:Hp} {r':RS} {ex':Ex},lM CC CS Ms Hb ex' G co m sl pl r'->∃ dx fs,G co=some (.ins CC dx fs)/\fs.lookup ("ending_due":Str)=none/\fs.lookup ("do_one":Str)=none:=fun c'=>by
  obtain ⟨dx,rv,sv,h1,_⟩:=c'.hc;exact ⟨dx,_,h1,JX _ _ _ _ _ (by decide +kernel),JX _ _ _ _ _ (by decide +kernel)⟩
 have mo:=hM.ok
 -- no records
 refine bR (cI ?_);refine ⟨bH _,fun rl hrl=>?_⟩;refine aU ?_;dsimp only;have c0:=c.more (o:=.lst []) hrl (fun xs z=>by cases z);have hr0:upd H rl (.lst []) rl=some (.lst []):=ag;have f0:bj (Hid ex H) (Hid (ex.add rl) (upd H rl (.lst []))):=by
  rw [pJ hrl];exact bj.refl _
 have ot0:Oth ex co sl pl H (upd H rl (.lst [])):=fun a _ _ _ o e=>bz e (aG e hrl);have n1:co≠rl:=by
  obtain ⟨dx,rv,sv,h1,_⟩:=c.hc;exact aG h1 hrl
 have n2:sl≠rl:=by
  obtain ⟨ss,h1,_⟩:=c.hs;exact aG h1 hrl
 have n3:pl≠rl:=by
  obtain ⟨ss,h1,_⟩:=c.hp;exact aG h1 hrl
 have nbrl:Hb rl=none:=by
  cases z:Hb rl with
  | none=>rfl
  | some o =>
   have y:=(c.sm _ _ z).2.2.2;rw [hrl] at y
   cases y
 revert c0 hr0 f0 ot0;generalize upd H rl (.lst [])=G0;intro c0 hr0 f0 ot0;refine bR (cI ?_);obtain ⟨dx,fs,hco,no1,no2⟩:=cok c0;refine ⟨_,rfl,co,dx,fs,rfl,hco,no1,_,rfl,Ms,Hb,ex.add rl,co,m,sl,pl,r,most,rfl,c0,fun en G1 s1 hen=>?_⟩;refine aU ?_;dsimp only;refine bR ?_;refine yH (fun σ G=>∃ (i:Nat) (en:V) (u4:Option V) (rvs:List V),σ=[some (.ref co),some (.int most),some (.ref rl),some en,u4]/\(∀ j,j < i->ROk Ms.length (itR Ms r j).1/\km (itR Ms r j).1 (most - (itR Ms r j).2.length)=none)/\lM CC CS Ms Hb (ex.add rl) G co m sl pl (itR Ms r i).1 /\
   G rl=some (.lst rvs)/\aI (RcIn (Hid (ex.add rl) G)) rvs (itR Ms r i).2/\bj (Hid ex H) (Hid (ex.add rl) G)/\Oth ex co sl pl H G/\(itR Ms r i).1.pd.length<=1000000 + 5000 * (itR Ms r i).2.length /\
   ((km (itR Ms r i).1 (most - (itR Ms r i).2.length)=none/\en=.non)\/∃ e,km (itR Ms r i).1 (most - (itR Ms r i).2.length)=some e/\vz (Hid (ex.add rl) G) en e)) rMu ?_ ?_ ?_
 ·refine ⟨0,en,_,[],rfl,fun j hj=>absurd hj (kX _),c0.same s1,s1 _ _ hr0,.nil,f0.trans (ie s1),fun a q1 q2 q3 o e=>s1 _ _ (ot0 a q1 q2 q3 o e),by show r.pd.length<=_; omega,?_⟩;have e0:most - (((itR Ms r 0).2.length:Nat):Int)=most:=by
   show most - ((0:Nat):Int)=most;omega
  rw [e0];exact hen
 ·clear hen;rintro σ G ⟨i,en,u4,rvs,rfl,hj,c1,hrl1,hrv,f1,ot1,hpl,hd⟩;have lrv:=aX hrv
  rcases hd with ⟨hd,rfl⟩ | ⟨e,hd,hen⟩
  ·obtain ⟨d1,d2,d3⟩:=m6 hd;have si:=uL mo c1.ok d2;obtain ⟨sl1,sl2⟩:=vB si;refine ⟨_,rfl,_,rfl,iF ?_⟩;refine bR (cI ?_);obtain ⟨dx,fs,hco,no1,no2⟩:=cok c1;refine ⟨_,rfl,co,dx,fs,rfl,hco,no2,Ms,Hb,ex.add rl,co,m,sl,pl,_,rfl,hM,c1,d1,d2,by omega,fun v G2 c2 f2 ot2 tl=>?_⟩;refine aU ?_;dsimp only;have hrl2:G2 rl=some (.lst rvs):=ot2 rl n1.symm n2.symm n3.symm _ hrl1;have ot2':Oth ex co sl pl H G2:=fun a q1 q2 q3 o e=>ot2 a q1 q2 q3 o (ot1 a q1 q2 q3 o e);have mu1:rMu [some (.ref co),some (.int most),some (.ref rl),some .non,u4] G=1 + (2000 - rvs.length):=BO rfl rfl hrl1;have big:2000 < au:=by decide
   have itS:itR Ms r (i + 1)=((g9 Ms (itR Ms r i).1).1,(itR Ms r i).2++(g9 Ms (itR Ms r i).1).2):=rfl;have hj':∀ j,j < i + 1->ROk Ms.length (itR Ms r j).1/\km (itR Ms r j).1 (most - (itR Ms r j).2.length)=none:=fun j hlt=>by
    rcases lK j i with z | z
    ·exact hj j z
    ·have:j=i:=by omega
     rw [this];exact ⟨c1.ok,hd⟩
   rcases sl2 with ⟨q,eq⟩ | ⟨eq,sp,esp⟩
   ·rw [eq] at tl sl1;obtain ⟨rc,erc⟩:∃ rc,v=.ref rc:=by
     obtain ⟨rc,_,_,_,_,_,_,_,e,_⟩:=tl;exact ⟨rc,e⟩
    subst erc;refine bR ?_;refine ⟨_,rfl,_,rfl,iF ?_⟩;refine ⟨_,rfl,.inl ⟨rfl,_,SqL.of hrl2⟩,_,rfl,rl,rvs,.ref rc,rfl,rfl,hrl2,by omega,?_⟩;have c3:=c2.upd (a:=rl) (o:=.lst (rvs++[.ref rc])) Ex.here nbrl n1 n2 n3 (fun xs z=>by cases z);have hrl3:upd G2 rl (.lst (rvs++[.ref rc])) rl=some (.lst (rvs++[.ref rc])):=ag;have f3:Hid (ex.add rl) (upd G2 rl (.lst (rvs++[.ref rc])))=Hid (ex.add rl) G2:=jX Ex.here;have ot3:Oth ex co sl pl H (upd G2 rl (.lst (rvs++[.ref rc]))):=fun a q1 q2 q3 o e=>bz (ot2' a q1 q2 q3 o e) (aG e hrl);have hrv3:aI (RcIn (Hid (ex.add rl) (upd G2 rl (.lst (rvs++[.ref rc]))))) (rvs++[.ref rc]) (itR Ms r (i + 1)).2:=by
     rw [f3,itS,eq];exact eS (Paired.mono (fun _ _ z=>z.same f2) hrv) tl
    have f3':bj (Hid ex H) (Hid (ex.add rl) (upd G2 rl (.lst (rvs++[.ref rc])))):=by
     rw [f3];exact f1.trans f2
    have c3':lM CC CS Ms Hb (ex.add rl) (upd G2 rl (.lst (rvs++[.ref rc]))) co m sl pl (itR Ms r (i + 1)).1:=c3;revert c3' hrl3 ot3 hrv3 f3';clear c3 f3;generalize upd G2 rl (.lst (rvs++[.ref rc]))=G3;intro hrl3 ot3 hrv3 f3' c3';have l3:=aX hrv3;dsimp only;refine cI ?_;obtain ⟨dx,fs,hco,no1,no2⟩:=cok c3';refine ⟨_,rfl,co,dx,fs,rfl,hco,no1,_,rfl,_,rfl,rl,_,rfl,.inl (SqL.of hrl3),_,_,rfl,rfl,Ms,Hb,ex.add rl,co,m,sl,pl,_,_,rfl,c3',fun en4 G4 s4 hen4=>?_⟩;refine aU ?_;dsimp only;refine ⟨⟨i + 1,en4,_,_,rfl,hj',c3'.same s4,s4 _ _ hrl3,Paired.mono (fun _ _ z=>z.same (ie s4)) hrv3,f3'.trans (ie s4),fun a q1 q2 q3 o e=>s4 _ _ (ot3 a q1 q2 q3 o e),?_,?_⟩,?_⟩
    ·rw [itS,eq,ax];show (g9 Ms (itR Ms r i).1).1.pd.length<=_;show _<=1000000 + 5000 * ((itR Ms r i).2.length + 1);simp only [aR,cU] at sl1;omega
    ·rw [<- l3];exact hen4
    ·rw [mu1]
     rcases hen4 with ⟨_,rfl⟩ | ⟨e,_,he⟩
     ·rw [BO rfl rfl (s4 _ _ hrl3),ax];simp only [aR,cU];omega
     ·obtain ⟨t,rfl⟩:=he.ref;rw [BP rfl];omega
   ·rw [eq] at tl sl1;have tl:v=.non:=tl;subst tl;refine bR ?_;refine ⟨_,rfl,_,rfl,gi (AI ?_)⟩;dsimp only;have c3':lM CC CS Ms Hb (ex.add rl) G2 co m sl pl (itR Ms r (i + 1)).1:=c2;have hrv3:aI (RcIn (Hid (ex.add rl) G2)) rvs (itR Ms r (i + 1)).2:=by
     rw [itS,eq,dE];exact Paired.mono (fun _ _ z=>z.same f2) hrv
    have l3:=aX hrv3;refine cI ?_;obtain ⟨dx,fs,hco,no1,no2⟩:=cok c3';refine ⟨_,rfl,co,dx,fs,rfl,hco,no1,_,rfl,_,rfl,rl,_,rfl,.inl (SqL.of hrl2),_,_,rfl,rfl,Ms,Hb,ex.add rl,co,m,sl,pl,_,_,rfl,c3',fun en4 G4 s4 hen4=>?_⟩;refine aU ?_;dsimp only;have hen5:∃ e,km (itR Ms r (i + 1)).1 (most - (rvs.length:Int))=some e/\vz (Hid (ex.add rl) G4) en4 e:=by
     rcases hen4 with ⟨z,_⟩ | z
     ·have y:km (itR Ms r (i + 1)).1 (most - (rvs.length:Int))=some (.stp sp):=LO esp;rw [y] at z
      cases z
     ·exact z
    refine ⟨⟨i + 1,en4,_,_,rfl,hj',c3'.same s4,s4 _ _ hrl2,Paired.mono (fun _ _ z=>z.same (ie s4)) hrv3,(f1.trans f2).trans (ie s4),fun a q1 q2 q3 o e=>s4 _ _ (ot2' a q1 q2 q3 o e),?_,?_⟩,?_⟩
    ·rw [itS,eq,dE];show (g9 Ms (itR Ms r i).1).1.pd.length<=1000000 + 5000 * (itR Ms r i).2.length;simp only [cU] at sl1;omega
    ·rw [<- l3];exact .inr hen5
    ·rw [mu1];obtain ⟨e,_,he⟩:=hen5;obtain ⟨t,rfl⟩:=he.ref;rw [BP rfl];omega
  ·obtain ⟨t0,rfl⟩:=hen.ref;refine ⟨_,rfl,_,rfl,gi ?_⟩;dsimp only;refine fY ?_;refine ⟨_,rfl,_,rfl,lt2,fun t ht=>?_⟩;have st_:=aA ht (.tup [.ref rl,.ref t0]);have f5:bj (Hid (ex.add rl) G) (Hid ex (upd G t (.tup [.ref rl,.ref t0]))):=(ie st_).trans zm;have nrl:rl∉ex:=fun z=>by
    obtain ⟨o,e,_⟩:=c.nt rl z;rw [hrl] at e
    cases e
   have nt5:∀ a∈ex,∃ o,upd G t (.tup [.ref rl,.ref t0]) a=some o/\∀ xs,o≠.tup xs:=fun a ha=>by
    obtain ⟨o,e,n⟩:=c1.nt a (Ex.more ha);exact ⟨o,st_ _ _ e,n⟩
   exact k _ t i e ⟨⟨hj,hd,c1.ok⟩,(c1.same st_).less n1 n2 n3,f1.trans f5,fun a q1 q2 q3 o e=>st_ _ _ (ot1 a q1 q2 q3 o e),rl,_,rvs,iw nt5 ag,by rw [gW nrl]; exact st_ _ _ hrl1,hrl,Paired.mono (fun _ _ z=>z.same f5) hrv,hen.same f5⟩
 ·rintro σ G4 Q1 Q2 hq ⟨x,hx,c,ec,z⟩;exact ⟨x,hx,c,ec,hq _ _ z⟩
end
def st0 (M:MD):Sta:=⟨M.ps,M.qs.map fun q=>(q,[]),0,0⟩
def pM (es:List Ev):List Ev:=es.mapIdx fun i e=>atP e i
def uo (Ms:List MD) (es:List Ev):RS:=⟨Ms.map st0,qN (pM es) [],none,none⟩
theorem mi {α β:Type} {R:α->β->Prop}:∀ {xs:List α} {ys:List β},xs.length=ys.length->(∀ (i:Nat) x y,xs[i]?=some x->ys[i]?=some y->R x y)->aI R xs ys
 | [],[],_,_=>.nil
 | [],_ :: _,l,_=>by cases l
 | _ :: _,[],l,_=>by cases l
 | x :: xs,y :: ys,l,h=>.cons (h 0 x y rfl rfl) (mi (by simpa using l) fun i a b ha hb=>h (i + 1) a b (by simpa using ha) (by simpa using hb))
theorem vD (es:List Ev):(pM es).length=es.length:=List.length_mapIdx
theorem p9 {es:List Ev} {i:Nat} {x:Ev} (h:(pM es)[i]?=some x):∃ e,es[i]?=some e/\x=atP e i:=by
 unfold pM at h;rw [List.getElem?_mapIdx] at h
 cases z:es[i]? with
 | none =>
  rw [z] at h
  cases h
 | some e =>
  rw [z] at h
  cases h;exact ⟨e,rfl,rfl⟩
theorem BQ (es:List Ev):(pM es).Pairwise (fun a b=>a.key≠b.key):=by
 refine dA.mpr fun i j hi hj lt=>?_;obtain ⟨e,_,h1⟩:=p9 (es:=es) (i:=i) (x:=(pM es)[i]) (aj hi);obtain ⟨e',_,h2⟩:=p9 (es:=es) (i:=j) (x:=(pM es)[j]) (aj hj);rw [h1,h2];refine vx (.inr ?_);show (i:Int)≠(j:Int);omega
theorem BR {Ms:List MD} {es:List Ev} (h:∀ e∈es,zk Ms.length e):ROk Ms.length (uo Ms es):=by
 refine ⟨ai _,p7 List.Pairwise.nil (fun x _ y hy=>by cases hy) (BQ es),fun e he=>?_,fun e he=>?_⟩
 ·rcases bU.mp ((gQ _ _).mem_iff.mp he) with z | z
  ·obtain ⟨i,hi⟩:=dG z;obtain ⟨e',h',rfl⟩:=p9 hi;obtain ⟨a,b,c,d,f⟩:=h e' (bX h');exact ⟨a,b,c,d,f⟩
  ·cases z
 ·rcases bU.mp ((gQ _ _).mem_iff.mp he) with z | z
  ·obtain ⟨i,hi⟩:=dG z;obtain ⟨e',h',rfl⟩:=p9 hi;exact .inl rfl
  ·cases z
theorem New.sta {H H':Hp} {CS st dx bd qd:aa} {ls:List aa} {M:MD} (N:New H H' CS st M.ps M.qs dx bd qd ls) (nb:(M.ps.map (·.1)).Nodup) (nq:M.qs.Nodup):StA CS H' st (st0 M):=by
 have inj:∀ xs:List Str,xs.Nodup->(xs.map (Sum.inr:Str->Key)).Nodup:=fun xs h=>List.Pairwise.map _ (fun a b z y=>z (iB y)) h;refine ⟨dx,bd,qd,M.qs.zip ls,N.hst,?_,?_,?_⟩
 ·have z:H' bd=some (.dK (qz (boK M.ps) [])):=N.hbd;have e:qz (boK M.ps) []=boK M.ps:=by
   rw [Aq]
   ·exact kK _
   ·rw [kK];unfold boK;rw [eg];have:=inj _ nb;rw [eg] at this;exact this
  rw [e] at z;exact z
 ·have z:H' qd=some (.dK (qz (quK (M.qs.zip ls)) [])):=N.hqd;have e:qz (quK (M.qs.zip ls)) []=quK (M.qs.zip ls):=by
   rw [Aq]
   ·exact kK _
   ·rw [kK];unfold quK;rw [eg];have e1:(M.qs.zip ls).map ((fun x:Key×V=>x.1) ∘ fun p:Str×aa=>((Sum.inr p.1:Key),V.ref p.2))=((M.qs.zip ls).map (·.1)).map (Sum.inr:Str->Key):=by
     rw [eg];rfl
    rw [e1,List.map_fst_zip (by rw [N.len]; exact aE _)];exact inj _ nq
  rw [e] at z;exact z
 ·refine mi ?_ fun i x y hx hy=>?_
  ·show _=((M.qs.map fun q=>(q,([]:List Int)))).length;rw [pF,ai,N.len,Nat.min_self]
  ·have hx:=xQ.mp hx;have hy:(M.qs.map fun q=>(q,([]:List Int)))[i]?=some y:=hy;rw [bS,hx.1] at hy
   cases hy;exact ⟨rfl,(N.li _ (bX hx.2)).2⟩
theorem qb {H:Hp} {a:aa} (n:H a=none):a∉(⟨[],H⟩:Ex):=fun z=>z.elim (fun y=>by cases y) fun ⟨o,e,_⟩=>by
 have e:H a=some o:=e;rw [n] at e
 cases e
theorem New.hid {H0 H H':Hp} {CS st dx bd qd:aa} {ls:List aa} {ps:List (Str×Int)} {qs:List Str} (s:bj H0 H) (N:New H H' CS st ps qs dx bd qd ls):New (fun _=>none) (Hid ⟨[],H0⟩ H') CS st ps qs dx bd qd ls:=
 ⟨by rw [gW (qb (none_of s N.ost))]; exact N.hst,by rw [gW (qb (none_of s N.obd))]; exact N.hbd,by rw [gW (qb (none_of s N.oqd))]; exact N.hqd,N.len,N.nd,fun l hl=>⟨rfl,by rw [gW (qb (none_of s (N.li l hl).1))]; exact (N.li l hl).2⟩,rfl,rfl,rfl,N.ne,fun a o e=>by cases e⟩
theorem F0 {H G G':Hp} {l:List aa} (s:bj G G'):bj (Hid ⟨l,H⟩ G) (Hid ⟨[],H⟩ G'):=fun a o e=>by
 have na:a∉(⟨[],H⟩:Ex):=fun z=>n6 e (z.elim (fun y=>by cases y) .inr);rw [gW na];exact s _ _ (jf _ _ e)
theorem AJ {H G G':Hp} {l:List aa} (s:bj G G') (n:∀ a∈l,G a=none):bj (Hid ⟨[],H⟩ G) (Hid ⟨l,H⟩ G'):=fun a o e=>by
 have e':=jf _ _ e;have na:a∉(⟨l,H⟩:Ex):=fun z=>z.elim (fun y=>by rw [n a y] at e'; cases e') fun y=>n6 e (.inr y);rw [gW na];exact s _ _ e'
theorem MoI.wk0 {m:Int} {H:Hp} {v:V} {M:MD} (h:MoI m H v M):qq M.bs M.qs (st0 M).w:=by
 have w1:(10:Int) ^ 15=1000000000000000:=by decide
 refine ⟨h.kb,?_,h.nb,h.nq,fun p hp=>?_,fun p hp=>?_,jO,(fun x hx=>by cases hx),jO,(fun x hx=>by cases hx),(fun x hx=>by cases hx),?_⟩
 ·show (M.qs.map fun q=>(q,([]:List Int))).map (·.1)=_;rw [eg];exact List.map_id _
 ·exact h.wb p hp
 ·obtain ⟨q,_,rfl⟩:=cB.mp hp;exact ⟨bH _,fun n hn=>by cases hn⟩
 ·rw [ax];have:=h.lb;have:=h.lq;omega
section
variable {P:aL} {w:bN} {K:ae} {mg:Str->Option af} {base:cF} {f fI fF fPf fA fR fBk CC CM CS CB:aa} {fd fdI fdF fdPf fdA fdR fdBk:cw}
seal PS PSs PE PA PT PW PI PG PGs PC
inductive J1 (CC:aa) (vs:List V) (H:Hp) (Q:VK) (_e:XK):Prop where
 | mk (b dx:aa) (m s p:V) (_:vs=[.ref b,m,s,p]) (_:H b=some (.ins CC dx [])) (_:∀ G,G b=some (.ins CC dx (jJ m s p .non .non))->But b H G->Q .non G):J1 CC vs H Q _e
def spCI (CC:aa):Sp:=fun vs H Q _e=>J1 CC vs H Q _e
theorem scCI:cv ["self","model","states","pending"] ["self","model","states","pending"] (aQ me):={}
theorem ok_ci (F:Fun K "__init__" "Course.__init__" me f fd) (T:CoT K mg CC):cm P w K mg base CX0 1 f fd ["self","model","states","pending"] (spCI CC):=by
 refine F.ok scCI (fun vs H Q E h=>?_) (fun cdv A outer s H vs Q E hr h=>?_)
 ·obtain ⟨b,dx,m,s',p,rfl,_⟩:=h;rfl
 obtain ⟨b,dx,m,s',p,rfl,hb,k⟩:=h;refine ⟨_,ak (gb (pv 0) (pv 1) rfl) (ak (gb (pv 0) (pv 2) rfl) (ak (gb (pv 0) (pv 3) rfl) (ak (gb (pv 0) xn rfl) (aF (gb (pv 0) xn rfl))))),?_⟩;have l1:=hJ "model" m [];have l2:=hJ "states" s' (dM "model" m []);have l3:=hJ "pending" p (dM "states" s' (dM "model" m []));have l4:=hJ "reached" .non (dM "pending" p (dM "states" s' (dM "model" m [])));simp only [cU] at l1;refine ⟨_,rfl,_,rfl,b,CC,dx,[],rfl,hb,T.cl,T.nM,(by show 0 < 1000; decide),_,rfl,_,rfl,b,CC,dx,_,rfl,ag,T.cl,T.nS,(by omega),_,rfl,_,rfl,b,CC,dx,_,rfl,ag,T.cl,T.nP,(by omega),?_⟩;refine ⟨_,rfl,b,CC,dx,_,rfl,ag,T.cl,T.nR,(by omega),_,rfl,b,CC,dx,_,rfl,ag,T.cl,T.nE,(by omega),?_⟩;rw [LJ];exact k _ ag (((((But.upd b H _).trans (But.upd b _ _)).trans (But.upd b _ _)).trans (But.upd b _ _)).trans (But.upd b _ _))
inductive F3 (CC CM CS:aa) (vs:List V) (H:Hp) (Q:VK) (_e:XK):Prop where
 | mk (Ms:List MD) (m sgl:aa) (svs:List V) (es:List Ev) (_:vs=[.ref m,.ref sgl]) (_:tE CM Ms H m) (_:Ms.length < 1000) (_:H sgl=some (.lst svs)) (_:aI (vt H) svs es) (_:es.length < 64) (_:(∀ e∈es,zk Ms.length e)) (_:∀ (G:Hp) (co sl pl:aa),lM CC CS Ms H ⟨[co,sl,pl],H⟩ G co m sl pl (uo Ms es)->Q (.ref co) G):F3 CC CM CS vs H Q _e
def J2 (CC CM CS:aa):Sp:=fun vs H Q _e=>F3 CC CM CS vs H Q _e
abbrev nCa:List Str:=["model","signs","states"]
theorem scCa:cv nCa ["model","signs"] (aQ gU):={}
theorem ndCa:((["at"]:List Str)++nCa).Nodup:=by decide +kernel
theorem LQ (D:Df K mg "course_at_first" gU ["model","signs"] f fd) (DF:Df K mg "first_state" jV ["model","at"] fF fdF) (GF:cm P w K mg base CX0 3 fF fdF ["model","at"] (zc CM CS)) (DPf:Df K mg "pending_at_first" gE ["signs"] fPf fdPf) (GPf:cm P w K mg base CX0 1 fPf fdPf ["signs"] JT)
  (MC:Mk K CC fI) (bI:Binds K fdI ["self","model","states","pending"] []) (GI:cm P w K mg base CX0 1 fI fdI ["self","model","states","pending"] (spCI CC)) (T:CoT K mg CC) (TM:MdT K mg CM CS) (B:Bl mg) (BS:mg "sorted"=none) :
  cm P w K mg base CX0 4 f fd ["model","signs"] (J2 CC CM CS):=by
 refine D.F.ok scCa (fun vs H Q E h=>?_) (fun cdv A outer s H vs Q E hr h=>?_)
 ·obtain ⟨Ms,m,sgl,svs,es,rfl,_⟩:=h;rfl
 obtain ⟨Ms,m,sgl,svs,es,rfl,hM,hlen,hsg,hsv,hes,heo,k⟩:=h;have hu:=qx hr;have h50:=ET hr;have h5:=jA (Dx (by decide:5<=50) _) h50;have r1:d5 1 _:=hr.mono (by decide);have r2:d5 2 _:=hr.mono (by decide);have r3:d5 3 _:=hr.mono (by decide);refine ⟨_,ak (pZ (i:=2) ["at"] (iG.open (NN:=nCa) (N:=nCa) (sc:=aQ gU) rfl rfl (by decide +kernel) rfl (by decide +kernel) (by decide +kernel) rfl (by decide +kernel)) rfl scCa.nd rfl (Or.inl rfl) (iL (by rfl) B.range (av (dB (eR K (by rfl)) (by rfl) B.len cG (av (jF K (by rfl) (pv 0) (by rfl)) ao)) ao)) (fun _ _ _ _=>cP (i:=0) ndCa rfl (Or.inl rfl)) (fun _ _ _ _=>kD)
   (fun _ _ _ _=>aO GF r3 (by rfl) DF.m DF.F.kp DF.b .nil bY (av (pv 1) (av (pv 0) ao))))
  (aF (bQ (pU MC GI r2 (by rfl) T.m bI .nil bY (av (pv 0) (av (pv 2) (av (E6 h5 (by rfl) BS (av (aO GPf r1 (by rfl) DPf.m DPf.F.kp DPf.b .nil bY (av (pv 1) ao)) ao) ko) ao)))))),?_⟩
 obtain ⟨dxm,ml,fs,hm,hfs,xs,hml,hxs⟩:=id hM;have lxs:xs.length=Ms.length:=aX hxs;have big:=fq;refine bR (cI ?_);refine C4 (K:=K) (ms:=xs) rfl hm TM.clM TM.nM hfs hml (by omega) (fun i ys G=>∃ ss:List aa,ys=ss.map V.ref/\bj H G/\aI (StA CS (Hid ⟨[],H⟩ G)) ss ((Ms.take i).map st0)) ⟨[],rfl,bj.refl _,by rw [lU]; exact .nil⟩ ?_ ?_ ?_
 ·rintro i ys G hi ⟨ss,rfl,s1,p1⟩;have:=aX p1;rw [ai,aT] at this;rw [ai];omega
 ·rintro i ys G hi ⟨ss,rfl,s1,p1⟩;obtain ⟨Mi,hMi⟩:∃ M,Ms[i]?=some M:=⟨_,aj (by omega)⟩;obtain ⟨x,hx,mo⟩:=jn hxs hMi;obtain ⟨t,bl,ql,n0,x3,x4,vb,rfl,g1,g2,g3,g4⟩:=mo.fs;refine ⟨rfl,?_⟩;unfold vR;refine iF ?_;have lb:Mi.ps.length<=100:=by
   have e:=congrArg gD mo.kb;rw [ai] at e;have:=mo.lb;omega
  have lq:Mi.qs.length<=100:=by
   have:=mo.lq;omega
  refine ⟨_,rfl,_,rfl,m,dxm,ml,t,bl,ql,fs,n0,x3,x4,i,xs,vb,Mi.ps,Mi.qs,by rw [Int.zero_add]; rfl,s1 _ _ hm,hfs,s1 _ _ hml,hx,s1 _ _ g1,s1 _ _ g2,g3.same s1,lb,s1 _ _ g4,lq,fun st dx bd qd ls G' N=>?_⟩;refine ⟨ss++[st],by rw [bV]; rfl,s1.trans N.same,?_⟩;rw [gm,hMi,bV];exact eS (Paired.mono (fun _ _ z=>mh.same' (ie N.same) z) p1) ((N.hid s1).sta (by rw [mo.kb]; exact mo.nb) mo.nq)
 rintro ys G ⟨ss,rfl,s1,p1⟩;rw [lxs,dQ] at p1;intro sl hsl;have ssl:=aA hsl (.lst (ss.map V.ref));refine aU ?_;dsimp only;refine fY (Ay ?_);have fsl:=none_of s1 hsl;refine ⟨_,rfl,_,rfl,_,rfl,sgl,svs,es,rfl,ssl _ _ (s1 _ _ hsg),Paired.mono (fun _ _ z=>(z.same s1).same ssl) hsv,by omega,fun G1 l0 ys sm1 fl0 hl0 ly hy=>?_⟩;have hys:aI (gK G1) ys (pM es):=mi (by rw [vD]; exact ly) fun i y e hy' he=>by
  obtain ⟨e',h',rfl⟩:=p9 he;exact hy i y e' hy' h'
 obtain ⟨z1,z2,z3⟩:=vA hys;refine ⟨l0,(ys.zip (pM es)).map fun u=>(u.1,u.2.key),rfl,?_,fun z hz=>?_,?_,?_,fun pl zs' hpl pm fz=>?_⟩
 ·rw [eg];have:((fun x:V×List Int=>x.1) ∘ fun u:V×Ev=>(u.1,u.2.key))=(fun u:V×Ev=>u.1):=rfl;rw [this,z1];exact hl0
 ·obtain ⟨u,hu,rfl⟩:=cB.mp hz;exact AG (z3 u hu)
 ·rw [eg];have:((fun x:V×List Int=>x.2) ∘ fun u:V×Ev=>(u.1,u.2.key))=Ev.key ∘ (fun u:V×Ev=>u.2):=rfl;rw [this,<- eg,z2];exact jP.mpr (BQ es)
 ·rw [ai,pF,vD];omega
 obtain ⟨ps,eps,hps⟩:=xa (F:=G1) (us:=ys.zip (pM es)) (es:=qN (pM es) []) (zs:=zs') z3 pm fz (by
  rw [z2];have:=gQ (pM es) [];rw [dE] at this;exact this.symm) (BR heo).fall
 rw [eps];have spl:=aA hpl (.lst ps);have hsl1:=sm1 _ _ (ag:upd G sl (.lst (ss.map V.ref)) sl=_);have nsp:sl≠pl:=aG hsl1 hpl;intro co dxc hco hdx ndx;have hslG:=spl _ _ hsl1;have hplG:upd G1 pl (.lst ps) pl=some (.lst ps):=ag;have nsc:sl≠co:=aG hslG hco;have npc:pl≠co:=aG hplG hco;have sA:bj H (upd G1 pl (.lst ps)):=(s1.trans (ssl.trans sm1)).trans spl;refine ⟨co,dxc,_,_,_,rfl,ag,fun G' hG' but=>⟨rfl,?_⟩⟩;have sB:bj (upd G1 pl (.lst ps)) G':=fun a o e=>but _ _ (bz (bz e (aG e hdx)) (aG e hco)) (aG e hco);have fco:H co=none:=none_of sA hco;have fpl:H pl=none:=none_of (s1.trans (ssl.trans sm1)) hpl;have fG:∀ a∈[co,sl,pl],G a=none:=fun a ha=>by
  simp only [ay,aY,or_false] at ha
  rcases ha with rfl | rfl | rfl
  ·exact none_of ((ssl.trans sm1).trans spl) hco
  ·exact hsl
  ·exact none_of (ssl.trans sm1) hpl
 have sG:bj (Hid ⟨[],H⟩ G) (Hid ⟨[co,sl,pl],H⟩ G'):=AJ (((ssl.trans sm1).trans spl).trans sB) fG;have ntt:∀ a∈(⟨[co,sl,pl],H⟩:Ex),∃ o,G' a=some o/\∀ xs,o≠.tup xs:=fun a ha=>by
  rcases ha with ha | ⟨o,e,n⟩
  case inr=>exact ⟨o,(sA.trans sB) _ _ e,n⟩
  have ha:a∈[co,sl,pl]:=ha;simp only [ay,aY,or_false] at ha
  rcases ha with rfl | rfl | rfl
  ·exact ⟨_,hG',fun xs z=>by cases z⟩
  ·exact ⟨_,sB _ _ hslG,fun xs z=>by cases z⟩
  ·exact ⟨_,sB _ _ hplG,fun xs z=>by cases z⟩
 refine k G' co sl pl ⟨BR heo,fun b o e=>⟨aG e fco,aG e fsl,aG e fpl,(sA.trans sB) _ _ e⟩,.inl (by simp),.inl (by simp),.inl (by simp),nsc.symm,npc.symm,nsp,⟨dxc,_,_,hG',rfl,rfl⟩,⟨ss,sB _ _ hslG,Paired.mono (fun _ _ z=>mh.same' sG z) p1⟩,⟨ps,sB _ _ hplG,Paired.mono (fun _ _ z=>gK.hid ntt (z.same (spl.trans sB))) hps⟩,fun i M s hi hs=>?_,ntt⟩;have hs:(Ms.map st0)[i]?=some s:=hs;rw [bS,hi] at hs
 cases hs;obtain ⟨x,_,mo⟩:=jn hxs hi;exact mo.wk0
structure LR (CB CS:aa) (G:Hp) (b:aa) (q:RS×List Rec) (e:End):Prop where
 ex:∃ (dx rl sl:aa) (en:V) (rvs:List V) (ss:List aa),G b=some (.ins CB dx (AB (.ref rl) en (.ref sl)))/\G rl=some (.lst rvs)/\aI (RcIn G) rvs q.2/\vz G en e/\G sl=some (.lst (ss.map V.ref))/\aI (StA CS G) ss q.1.sts
inductive F4 (CM CS CB:aa) (vs:List V) (H:Hp) (Q:VK) (_e:XK):Prop where
 | mk (Ms:List MD) (m sgl:aa) (svs:List V) (es:List Ev) (most:Int) (_:vs=[.ref m,.ref sgl,.int most]) (_:tE CM Ms H m) (_:Ms.length < 1000) (_:H sgl=some (.lst svs)) (_:aI (vt H) svs es) (_:es.length < 64) (_:(∀ e∈es,zk Ms.length e)) (_:most<=1000) (_:∀ (G:Hp) (b:aa) (i:Nat) (e:End),bj H G->vC Ms (uo Ms es) most i e->LR CB CS (Hid ⟨[],H⟩ G) b (itR Ms (uo Ms es) i) e->Q (.ref b) G):F4 CM CS CB vs H Q _e
def t8 (CM CS CB:aa):Sp:=fun vs H Q _e=>F4 CM CS CB vs H Q _e
theorem LS:cv ["model","signs","most","course","told"] ["model","signs","most"] (aQ rF):={}
theorem LU (D:Df K mg "plain" rF ["model","signs","most"] f fd) (DA:Df K mg "course_at_first" gU ["model","signs"] fA fdA) (GA:cm P w K mg base CX0 4 fA fdA ["model","signs"] (J2 CC CM CS)) (DR:Df K mg "run_on" rE ["course","most"] fR fdR) (GR:cm P w K mg base CX0 39 fR fdR ["course","most"] (J0 CC CM CS))
  (MB:Mk K CB fBk) (bB:Binds K fdBk ["self","records","ending","states"] []) (GB:cm P w K mg base CX0 1 fBk fdBk ["self","records","ending","states"] (spBk CB)) (TB:BkT K mg CB) (T:CoT K mg CC) :
  cm P w K mg base CX0 40 f fd ["model","signs","most"] (t8 CM CS CB):=by
 refine D.F.ok LS (fun vs H Q E h=>?_) (fun cdv A outer s H vs Q E hr h=>?_)
 ·obtain ⟨Ms,m,sgl,svs,es,most,rfl,_⟩:=h;rfl
 obtain ⟨Ms,m,sgl,svs,es,most,rfl,hM,hlen,hsg,hsv,hes,heo,hmost,k⟩:=h;have r2:d5 2 _:=hr.mono (by decide);have r4:d5 4 _:=hr.mono (by decide);refine ⟨_,ak (aZ (i:=3) LS.nd rfl (Or.inl rfl) (aO GA r4 (by rfl) DA.m DA.F.kp DA.b .nil bY (av (pv 0) (av (pv 1) ao))))
  (ak (aZ (i:=4) LS.nd rfl (Or.inl rfl) (aO GR hr (by rfl) DR.m DR.F.kp DR.b .nil bY (av (pv 3) (av (pv 2) ao))))
  (aF (bQ (pU MB GB r2 (by rfl) TB.m bB .nil bY (av (bT cL (pv 4) aw (fun _ _=>rfl)) (av (bT cL (pv 4) aw (fun _ _=>rfl)) (av (cW (pv 3) rfl) ao))))))),?_⟩
 refine bR (cI ?_);refine ⟨_,rfl,_,rfl,Ms,m,sgl,svs,es,rfl,hM,hlen,hsg,hsv,hes,heo,fun G co sl pl c=>?_⟩;refine aU ?_;dsimp only;refine bR (cI ?_);refine ⟨_,rfl,_,rfl,Ms,H,⟨[co,sl,pl],H⟩,co,m,sl,pl,_,most,rfl,hM,c,hmost,?_,fun G2 t i e R=>?_⟩
 ·show (qN (pM es) []).length<=1000000;rw [(gQ _ _).length_eq,dE,vD];omega
 refine aU ?_;dsimp only;obtain ⟨rl,en,rvs,h1,h2,_,h3,h4⟩:=R.rs;obtain ⟨dx,rv,sv,h5,_⟩:=R.cc.hc;obtain ⟨ss,h6,h7⟩:=R.cc.hs;have hl:bj (Hid ⟨[co,sl,pl],H⟩ G2) G2:=jf;have sH2:bj H G2:=fun a o e=>(R.cc.sm a o e).2.2.2;have nsl:H sl=none:=by
  cases z:H sl with
  | none=>rfl
  | some o=>exact absurd rfl (R.cc.sm _ _ z).2.1
 refine fY (Ay ?_);refine ⟨_,rfl,t,_,_,_,rfl,rfl,SqT.of (hl _ _ h1),rfl,_,rfl,t,_,_,_,rfl,rfl,SqT.of (hl _ _ h1),rfl,_,rfl,co,CC,dx,_,_,rfl,h5,T.cl,T.nS,LF _ _ _ _ _,fun b dxb hb hdx nb=>⟨b,dxb,_,_,_,rfl,ag,fun G' hG' but=>⟨rfl,?_⟩⟩⟩;have sgb:bj G2 G':=fun a o e=>but _ _ (bz (bz e (aG e hdx)) (aG e hb)) (aG e hb);have sl2:bj (Hid ⟨[co,sl,pl],H⟩ G2) (Hid ⟨[],H⟩ G'):=F0 sgb;exact k G' b i e (sH2.trans sgb) R.st ⟨dxb,rl,sl,en,rvs,ss,by rw [gW (qb (none_of sH2 hb))]; exact hG',sl2 _ _ h2,Paired.mono (fun _ _ z=>z.same sl2) h3,h4.same sl2,by rw [gW (qb nsl)]; exact sgb _ _ h6,Paired.mono (fun _ _ z=>mh.same' sl2 z) h7⟩
end
section
variable {X:Cx} {es:List cZ} {te:TE} {t:TA}
theorem zp {es':List cZ} {k:Nat} {p:Pos} {env:Env}:cM (.Tuple es' k p :: es) env=(false,fy (.Tuple es' k p) env) :: cM es env:=by rfl
theorem jT {es':List cZ} {k:Nat} {p:Pos} (ha:PE X (.Tuple es' k p) te) (hr:PA X es t):PA X (.Tuple es' k p :: es) (mC te t):=av ha hr (by rfl)
theorem F5 {es':List cZ} {p:Pos} (ha:PE X (.List es' p) te) (hr:PA X es t):PA X (.List es' p :: es) (mC te t):=av ha hr (by rfl)
theorem dR {c:Const} {k:Nat} {p:Pos} (ha:PE X (.Constant c k p) te) (hr:PA X es t):PA X (.Constant c k p :: es) (mC te t):=av ha hr (by rfl)
theorem aS {x:Str} {p:Pos} (ha:PE X (.Name x p) te) (hr:PA X es t):PA X (.Name x p :: es) (mC te t):=av ha hr (by rfl)
theorem jK {g:cZ} {as:List cZ} {ks:List MJ} {p:Pos} (ha:PE X (.Call g as ks p) te) (hr:PA X es t):PA X (.Call g as ks p :: es) (mC te t):=av ha hr (by rfl)
theorem rO {a b:cZ} {p:Pos} (ha:PE X (.Subscript a b p) te) (hr:PA X es t):PA X (.Subscript a b p :: es) (mC te t):=av ha hr (by rfl)
theorem jL {a b:cZ} {o:Ho} {p:Pos} (ha:PE X (.BinOp a o b p) te) (hr:PA X es t):PA X (.BinOp a o b p :: es) (mC te t):=av ha hr (by rfl)
end
theorem jQ {t:L2.TT} {a b:TS} {D:kL} {σ:St} {H:Hp} (h:t σ H fun c H1=>if c=true then a D σ H1 else b D σ H1):Hn t a b D σ H:=h
theorem n9 {D:kL} {σ:St} {H:Hp} (h:D.nx σ H):mw D σ H:=h
def Det (t:L2.TT) (σ:St) (H:Hp) (b:Bool):Prop:=∀ Q:Bool->Hp->Prop,Q b H->t σ H Q
theorem Det.or {tA tB:L2.TT} {σ:St} {H:Hp} {x y:Bool} (a:Det tA σ H x) (b:x=false->Det tB σ H y):Det (tOr tA tB) σ H (x || y):=fun Q q=>a _ (by
 cases x with
 | true=>exact iF q
 | false=>exact gi (b rfl Q q))
theorem pO {t:L2.TT} {a b:TS} {D:kL} {σ:St} {H:Hp} {c:Bool} (h:Det t σ H c) (k1:c=true->a D σ H) (k2:c=false->b D σ H):Hn t a b D σ H:=h _ (by
 cases c with
 | true=>exact iF (k1 rfl)
 | false=>exact gi (k2 rfl))
theorem vE {i:Nat} {w k:Int} {σ:St} {H:Hp} (hv:σ[i]?=some (some (.int w))):Det (yI (tOp rEq (xm i) (tC (.int k)))) σ H (decide (w=k)):=fun Q q=>⟨_,hv,rfl,_,rfl,by
 rw [show decide (V.int w=V.int k)=decide (w=k) from by
  by_cases c:w=k
  ·subst c;rw [decide_eq_true rfl,decide_eq_true rfl]
  ·rw [decide_eq_false c,decide_eq_false (fun z=>c (by cases z; rfl))]]
 exact q⟩
theorem AK {i:Nat} {w k:Int} {σ:St} {H:Hp} (hv:σ[i]?=some (some (.int w))):Det (yI (tOp (rI0 fun i j=>.bl (decide (i < j))) (xm i) (tC (.int k)))) σ H (decide (w < k)):=fun Q q=>⟨_,hv,_,_,rfl,rfl,_,rfl,q⟩
theorem LV {i:Nat} {w k:Int} {σ:St} {H:Hp} (hv:σ[i]?=some (some (.int w))):Det (yI (tOp (rI0 fun i j=>.bl (decide (j < i))) (xm i) (tC (.int k)))) σ H (decide (k < w)):=fun Q q=>⟨_,hv,_,_,rfl,rfl,_,rfl,q⟩
def abc:Str:="abcdefghijklmnopqrstuvwxyz"
theorem BU:abc.cps.toList.length=26:=by decide +kernel
theorem xb:abc.length<=au:=by decide +kernel
theorem LW {z:Int} (h0:0<=z) (h1:z < 26):∃ c,atI abc.cps.toList z=some c:=by
 obtain ⟨j,rfl⟩:∃ j:Nat,z=(j:Int):=⟨z.toNat,by omega⟩;have l:j < abc.cps.toList.length:=by rw [BU]; omega
 exact ⟨abc.cps.toList[j],gR (aj l)⟩
section
variable {P:aL} {w:bN} {K:ae} {mg:Str->Option af} {base:cF} {f fT fW:aa} {fd fdT fdW:cw}
seal PS PSs PE PA PT PW PI PG PGs PC
def dS (H:Hp) (p:aa):Prop:=∃ x y:Int,H p=some (.lst [.int x,.int y])
theorem dS.same {H H':Hp} {p:aa} (a:dS H p) (b:bj H H'):dS H' p:=by
 obtain ⟨x,y,e⟩:=a;exact ⟨x,y,b _ _ e⟩
theorem tF (x:Int):-(2 ^ 64) < x % 2147483629/\x % 2147483629 < 2 ^ 64:=by
 have h1:=gv x (show (2147483629:Int)≠0 by decide);have h2:=fu x (show (0:Int) < 2147483629 by decide);omega
theorem xc {n:Nat} {ti:TE} {g:TG} {tc:L2.TT} {te:TE} {σ:St} {H:Hp} {Q:VK} (P:Nat->Hp->Prop) (hi:∀ R:VK,(∀ (m:Nat) (H1:Hp),P m H1->R (.int m) H1)->ti σ H R) (hb:∀ m H1,P m H1->m < 1000) (Pv:Nat->Hp->Nat->List V->Hp->Prop) (h0:∀ m H1,P m H1->Pv m H1 0 [] H1) (hl:∀ m H1,P m H1->∀ i ys H,i<=m->Pv m H1 i ys H->ys.length < au)
  (hs:∀ m H1,P m H1->∀ i ys H,i < m->Pv m H1 i ys H->g (.int (0 + i)) (cH n none++σ) H fun σ2 H2=>σ2.drop n=σ/\tc σ2 H2 fun b H3=>if b=true then te σ2 H3 fun y H4=>Pv m H1 (i + 1) (ys++[y]) H4 else Pv m H1 (i + 1) ys H3)
  (hd:∀ m H1,P m H1->∀ ys H,Pv m H1 m ys H->∀ p,H p=none->Q (.ref p) (upd H p (.lst ys))):tT n (Ee (mC ti zR)) g tc te σ H Q:=
 hi _ fun m H1 p=>⟨(m:Int),rfl,by have:=hb m H1 p; omega,by have:=hb m H1 p; omega,by
  rw [ng];exact E7 (Pv m H1) (h0 m H1 p) (hl m H1 p) (hs m H1 p) (hd m H1 p)⟩
theorem jg {p:aa} {G:Hp} {a:aa} (h:dS G p) (n:G a=none):a≠p:=by
 obtain ⟨x,y,e⟩:=h;exact (aG e n).symm
theorem m7 {p:aa} {G:Hp} (h:dS G p) {a:aa} {o:HO} (n:a≠p):dS (upd G a o) p:=by
 obtain ⟨x,y,e⟩:=h;exact ⟨x,y,by rw [aK n.symm]; exact e⟩
theorem qO {K:ae} {n:Nat} {ti:TE} {g:TG} {tc:L2.TT} {te:TE} {σ:St} {H:Hp} {Q:VK} {a:aa} {xs:List V} (hi:∀ R:VK,R (.ref a) H->ti σ H R) (hx:SqL K H a xs) (Pv:Nat->List V->Hp->Prop) (h0:Pv 0 [] H) (hl:∀ i ys H,i<=xs.length->Pv i ys H->SqL K H a xs/\ys.length < au)
  (hs:∀ i x ys H,xs[i]?=some x->Pv i ys H->g x (cH n none++σ) H fun σ2 H2=>σ2.drop n=σ/\tc σ2 H2 fun b H3=>if b=true then te σ2 H3 fun y H4=>Pv (i + 1) (ys++[y]) H4 else Pv (i + 1) ys H3)
  (hd:∀ ys H,Pv xs.length ys H->∀ p,H p=none->Q (.ref p) (upd H p (.lst ys))):tT n (Eb K ti) g tc te σ H Q:=
 hi _ ⟨a,rfl,⟨xs,hx⟩,sS Pv h0 hl hs hd⟩
theorem IT {xs:List V} {lo hi:Option Int} {v:V} (h:v∈eT xs lo hi):v∈xs:=by
 unfold eT at h;exact List.mem_of_mem_drop (qA h)
theorem LX {xs:List V} (h:xs≠[]) (z:Int):∃ v,atI xs (z % (xs.length:Int))=some v/\v∈xs:=by
 have hl:0 < xs.length:=De.mpr h;have h0:=gv z (show (xs.length:Int)≠0 by omega);have h1:=fu z (show (0:Int) < (xs.length:Int) by omega);obtain ⟨j,hj⟩:∃ j:Nat,z % (xs.length:Int)=(j:Int):=⟨(z % (xs.length:Int)).toNat,by omega⟩;rw [hj] at h1 |-;have hj2:j < xs.length:=by omega
 exact ⟨xs[j],gR (aj hj2),gH hj2⟩
abbrev nT:List Str:=["_law_purse_here","_law_many","_law_at","_law_found"]
abbrev pT:List Str:=["_law_purse_here","_law_many"]
theorem scT:cv nT pT (aQ eO):={}
inductive BV (vs:List V) (H:Hp) (Q:VK) (_e:XK):Prop where
 | mk (p:aa) (n:Int) (_:vs=[.ref p,.int n]) (_:dS H p) (_:0 < n) (_:n < 2 ^ 64) (_:∀ (r:Int) (H':Hp),0<=r->r < n->dS H' p->But p H H'->Q (.int r) H'):BV vs H Q _e
def lA:Sp:=fun vs H Q _e=>BV vs H Q _e
theorem jY (D:Df K mg "_law_take" eO pT f fd) (B:Bl mg):cm P w K mg base CX0 1 f fd pT lA:=by
 refine D.F.ok scT (fun vs H Q E h=>?_) (fun cdv A outer s H vs Q E hr h=>?_)
 ·obtain ⟨p,n,rfl,_⟩:=h;rfl
 obtain ⟨p,n,rfl,⟨x,y,hp⟩,hn,hn2,q⟩:=h;refine ⟨_,ak (aZ (i:=2) scT.nd rfl (Or.inl rfl) (iM pS (by rfl) B.int boot_int (av (nv eG (bT cV (pv 0) aw (fun _ _=>rfl)) aw (cj _)) ao)))
  (ak (aZ (i:=3) scT.nd rfl (Or.inl rfl) (cC lX (bT cV (pv 0) (pv 2) (fun _ _=>rfl)) (pv 1)))
  (ak (qD (cC yW (bT cV (pv 0) (pv 2) (fun _ _=>rfl)) (pv 1)) (zI (pv 0) (pv 2) uX))
  (aF (bQ (pv 3))))),?_⟩
 refine bR (cI ?_);refine ⟨_,rfl,p,_,_,_,rfl,rfl,SqL.of hp,rfl,rfl,.inr ⟨_,rfl,?_⟩⟩;refine aU ?_;dsimp only;generalize hb:decide (V.int x=V.int 0)=b;refine bR (cI ?_)
 cases b with
 | true =>
  refine ⟨_,rfl,_,rfl,p,_,_,_,rfl,rfl,SqL.of hp,rfl,_,rfl,_,_,rfl,rfl,hn,?_⟩;refine aU ?_;dsimp only;refine ⟨_,rfl,_,rfl,p,_,_,_,rfl,rfl,SqL.of hp,rfl,_,rfl,_,_,rfl,rfl,⟨hn,hn2⟩,_,rfl,_,rfl,p,_,_,_,rfl,rfl,hp,rfl,?_⟩;refine ⟨_,rfl,?_⟩;exact q _ _ (gv _ (by omega)) (fu _ hn) ⟨_,_,ag⟩ (But.upd p H _)
 | false =>
  refine ⟨_,rfl,_,rfl,p,_,_,_,rfl,rfl,SqL.of hp,rfl,_,rfl,_,_,rfl,rfl,hn,?_⟩;refine aU ?_;dsimp only;refine ⟨_,rfl,_,rfl,p,_,_,_,rfl,rfl,SqL.of hp,rfl,_,rfl,_,_,rfl,rfl,⟨hn,hn2⟩,_,rfl,_,rfl,p,_,_,_,rfl,rfl,hp,rfl,?_⟩;refine ⟨_,rfl,?_⟩;exact q _ _ (gv _ (by omega)) (fu _ hn) ⟨_,_,ag⟩ (But.upd p H _)
abbrev nP:List Str:=["_law_script","_law_cells","_law_found","_law_number","_law_k","_law_cell"]
abbrev pP:List Str:=["_law_script"]
theorem scP:cv nP pP (aQ lQ):={}
inductive zq (K:ae) (vs:List V) (H:Hp) (Q:VK) (_e:XK):Prop where
 | mk (a:aa) (ns:List Int) (_:vs=[.ref a]) (_:SqL K H a (ns.map V.int)) (_:ns.length<=63) (_:(∀ x∈ns,fH x<=1048576)) (_:∀ (p:aa) (H':Hp),H p=none->dS H' p->bj H H'->Q (.ref p) H'):zq K vs H Q _e
def BX (K:ae):Sp:=fun vs H Q _e=>zq K vs H Q _e
theorem F6 (D:Df K mg "_law_purse" lQ pP f fd) (B:Bl mg):cm P w K mg base CX0 1 f fd pP (BX K):=by
 refine D.F.ok scP (fun vs H Q E h=>?_) (fun cdv A outer s H vs Q E hr h=>?_)
 ·obtain ⟨a,ns,rfl,_⟩:=h;rfl
 obtain ⟨a,ns,rfl,hS,hlen,hbits,q⟩:=h;refine ⟨_,ak (aZ (i:=1) scP.nd rfl (Or.inl rfl) (cC kS (eI iu (pv 0) fX (fg aw)) (dh (dR aw ao))))
  (ak (aZ (i:=2) scP.nd rfl (Or.inl rfl) aw)
  (ak (aZ (i:=3) scP.nd rfl (Or.inl rfl) aw)
  (ak (jy dy rfl (iL (by rfl) B.range (dR aw ao)) (cP (i:=4) scP.nd rfl (Or.inl rfl)) (ak (aZ (i:=5) scP.nd rfl (Or.inl rfl) (bT cV (pv 1) (cC lX (pv 4) (dB (eR K (by rfl)) (by rfl) B.len cG (aS (pv 1) ao))) (fun _ _=>rfl)))
  (ak (aZ (i:=3) scP.nd rfl (Or.inl rfl) (cC lX (cC ff (cC ff (cC ff (cC oR (pv 3) (pv 3)) (pv 5)) (cC oR aw (pv 4))) aw) aw))
  (aF (aZ (i:=2) scP.nd rfl (Or.inl rfl) (cC ff (cC oR (pv 2) aw) (cC lX (cC oR (pv 3) (pv 3)) aw)))))))
  (ak (cS (bM eG (cC lX (bT cV (pv 1) aw (fun _ _=>rfl)) aw) aw (cj _)) (aF (bQ (dh (jL (cC yW (dB yJ (by rfl) B.abs boot_abs (rO (bT cV (pv 1) aw (fun _ _=>rfl)) ao)) aw) (aS (pv 2) ao))))) cq)
  (aF (bQ (dh (dR aw (aS (pv 2) ao))))))))),?_⟩
 have big:=fq;refine bR (cI ?_);refine ⟨_,rfl,_,rfl,a,_,rfl,hS,fun l hl=>⟨(by show 1<=au; decide),fun m hm=>?_⟩⟩;have hlm:l≠m:=aG (ag:upd H l (.lst (eT (ns.map V.int) none (some 63))) l=_) hm;have cl:(eT (ns.map V.int) none (some 63)).length<=63:=dH (oY _ _ _) (by rw [ai]; exact hlen);have l64:(eT (ns.map V.int) none (some 63)).length + [V.int 1].length<=au:=by
  rw [z7];omega
 refine ⟨l,m,_,_,rfl,rfl,(by rw [aK hlm]; exact ag),ag,l64,fun c hc=>?_⟩;generalize hcs:eT (ns.map V.int) none (some 63)++[V.int 1]=cs at hc |-;have sc:bj H (upd (upd (upd H l (.lst (eT (ns.map V.int) none (some 63)))) m (.lst [.int 1])) c (.lst cs)):=(aA hl _).trans ((aA hm _).trans (aA hc _));generalize hH:upd (upd (upd H l (.lst (eT (ns.map V.int) none (some 63)))) m (.lst [.int 1])) c (.lst cs)=H1 at sc |-;have hc1:H1 c=some (.lst cs):=by rw [<- hH]; exact ag
 have nonil:cs≠[]:=by rw [<- hcs]; simp
 have cells:∀ v∈cs,∃ z:Int,v=.int z/\fH z<=1048576:=fun v hv=>by
  rw [<- hcs] at hv
  rcases bU.mp hv with z | z
  ·obtain ⟨n,hn,rfl⟩:=cB.mp (IT z);exact ⟨n,rfl,hbits n hn⟩
  ·rw [aH.mp z];exact ⟨1,rfl,by decide⟩
 refine aU ?_;dsimp only;refine bR (cI ?_);refine aU ?_;dsimp only;refine bR (cI ?_);refine aU ?_;dsimp only;refine bR ?_;refine ⟨120,rfl,by decide,by decide,kH (n:=120) (fun i σ H2=>∃ (z y:Int) (u v:Option V),σ=[some (.ref a),some (.ref c),some (.int z),some (.int y),u,v]/\-(2 ^ 64) < y/\y < 2 ^ 64/\H2=H1) ⟨1,5,none,none,rfl,by decide,by decide,rfl⟩ ?_ ?_⟩
 ·rintro i σ H2 hi ⟨z,y0,u0,v,rfl,hy1,hy2,rfl⟩;obtain ⟨u,hu,hm2⟩:=LX nonil (0 + (i:Int));obtain ⟨y,rfl,hy⟩:=cells u hm2;have lpos:(0:Int) < (cs.length:Int):=by
   have:=De.mpr nonil;omega
  refine bR (cI ?_);refine ⟨_,rfl,_,rfl,_,rfl,c,_,rfl,.inl (SqL.of hc1),_,_,rfl,rfl,lpos,c,_,_,_,rfl,rfl,SqL.of hc1,hu,?_⟩;refine aU ?_;dsimp only;refine bR (cI ?_);refine ⟨_,rfl,_,rfl,_,_,rfl,rfl,.inl ⟨hy1,hy2⟩,_,rfl,_,_,rfl,rfl,_,rfl,_,_,rfl,rfl,.inl ⟨by decide,by decide⟩,_,_,rfl,rfl,_,_,rfl,rfl,_,_,rfl,rfl,(by show (0:Int) < 2147483629; decide),?_⟩;refine aU ?_;dsimp only;refine cI ?_;refine ⟨_,rfl,_,_,rfl,rfl,.inr ⟨by decide,by decide⟩,_,rfl,_,rfl,_,_,rfl,rfl,.inl (tF _),_,_,rfl,rfl,(by show (0:Int) < 2147483587; decide),_,_,rfl,rfl,?_⟩;refine aU ?_;exact ⟨_,_,_,_,rfl,(tF _).1,(tF _).2,rfl⟩
 ·rintro σ H2 ⟨z,y0,u0,v,rfl,hy1,hy2,rfl⟩;obtain ⟨x0,hx0⟩:∃ x0,cs[0]?=some x0:=by
   cases cs with
   | nil=>exact absurd rfl nonil
   | cons x0 r=>exact ⟨x0,rfl⟩
  obtain ⟨y,rfl,hy⟩:=cells x0 (bX hx0);have a0:atI cs 0=some (.int y):=gR (j:=0) hx0;refine bR ?_;refine ⟨_,rfl,c,_,_,_,rfl,rfl,SqL.of hc1,a0,_,_,rfl,rfl,(by show (0:Int) < 2; decide),rfl,_,rfl,?_⟩;refine gS (fun _=>?_) (fun _=>?_)
  ·refine ⟨_,rfl,c,_,_,_,rfl,rfl,SqL.of hc1,a0,_,rfl,_,_,rfl,rfl,⟨by decide,by decide⟩,_,rfl,lt2,fun p hp=>?_⟩;exact q p _ (sc.free hp) ⟨_,_,ag⟩ (sc.trans (aA hp _))
  ·refine ⟨_,rfl,lt2,fun p hp=>?_⟩;exact q p _ (sc.free hp) ⟨_,_,ag⟩ (sc.trans (aA hp _))
end
theorem LY:abc.cps.toList.Nodup:=by decide +kernel
def AL:List Int:=[1,3,5,25,7,11]
def placeOf (b st:Int) (i:Nat):Int:=(b + st * (0 + (i:Int))) % 26
theorem rP (b st:Int) (i:Nat):0<=placeOf b st i/\placeOf b st i < 26:=by
 unfold placeOf;exact ⟨gv _ (by decide),fu _ (by decide)⟩
theorem F7 {b st:Int} (hs:st∈AL) {i j:Nat} (hi:i < 9) (hj:j < 9) (h:placeOf b st i=placeOf b st j):i=j:=by
 unfold placeOf at h;unfold AL at hs;simp only [ay,aY,or_false] at hs
 rcases hs with rfl | rfl | rfl | rfl | rfl | rfl <;> omega
def GN (b st:Int) (ss:List Str):Prop:=∀ i s,ss[i]?=some s->∃ c,abc.cps.toList[(placeOf b st i).toNat]?=some c/\s.cps.toList[0]?=some c
theorem IU {i j:Nat} {c} (hi:abc.cps.toList[i]?=some c) (hj:abc.cps.toList[j]?=some c):i=j:=by
 have li:=(aC.mp hi).1;exact (List.getElem?_inj li LY).mp (hi.trans hj.symm)
theorem IV {z:Int} (h0:0<=z) (h1:z < 26):∃ c,abc.cps.toList[z.toNat]?=some c/\atI abc.cps.toList z=some c:=by
 obtain ⟨j,rfl⟩:∃ j:Nat,z=(j:Int):=⟨z.toNat,by omega⟩;have l:j < abc.cps.toList.length:=by rw [BU]; omega
 exact ⟨abc.cps.toList[j],by rw [ng]; exact aj l,gR (aj l)⟩
theorem GN.nodup {b st:Int} (hs:st∈AL) {ss:List Str} (h:GN b st ss) (hl:ss.length<=9):ss.Nodup:=by
 refine dA.mpr fun i j li lj hij e=>?_;obtain ⟨c,a1,a2⟩:=h i _ (aj li);obtain ⟨d,b1,b2⟩:=h j _ (aj lj);rw [<- e,a2] at b2
 cases b2;have z:=IU a1 b1;obtain ⟨p1,p2⟩:=rP b st i;obtain ⟨q1,q2⟩:=rP b st j;have w:placeOf b st i=placeOf b st j:=by omega
 have:=F7 hs (by omega) (by omega) w;omega
theorem GN.snoc {b st:Int} {ss:List Str} {s:Str} {c} (h:GN b st ss) (h2:abc.cps.toList[(placeOf b st ss.length).toNat]?=some c) (h3:s.cps.toList[0]?=some c):GN b st (ss++[s]):=by
 intro i x e
 by_cases hi:i < ss.length
 ·rw [fk hi] at e;exact h i x e
 ·rw [c9 (by omega)] at e;have z:i - ss.length=0:=by
   by_cases y:i - ss.length=0
   ·exact y
   ·obtain ⟨k,hk⟩:∃ k,i - ss.length=k + 1:=⟨i - ss.length - 1,by omega⟩;rw [hk] at e;simp at e
  have hi':i=ss.length:=by omega
  rw [z] at e;simp at e;subst e;rw [hi'];exact ⟨c,h2,h3⟩
theorem x9 {x y:Str} {c} (h:x.cps.toList[0]?=some c):(x++y).cps.toList[0]?=some c:=by
 show (x.cps++y.cps).toList[0]?=some c;rw [Array.toList_append,fk (aC.mp h).1];exact h
theorem xf (z:Str):∀ (ps:List Str) (acc:Array Nat),(ps.foldl (fun acc p=>acc++z.cps++p.cps) acc).size=acc.size + (ps.map fun x=>x.length).sum + ps.length * z.length
 | [],acc=>by simp
 | p :: ps,acc=>by
  rw [o8,xf z ps,DJ,DJ,cu,yB,aR,pQ];show acc.size + z.length + p.length + _ + _=_;omega
theorem Gi (z:Str) (ys:List Str):(CQ z ys).length<=jsz z ys:=by
 cases ys with
 | nil=>exact bH _
 | cons p ps =>
  show (ps.foldl (fun acc p=>acc++z.cps++p.cps) p.cps).size<=_;rw [xf];unfold jsz;rw [cu,yB,aR,pQ];show p.length + _ + _<=_;omega
theorem LZ {z:Str} {ys:List Str} {k:Nat} (h:∀ x∈ys,x.length<=k):jsz z ys<=ys.length * (k + z.length):=by
 unfold jsz
 induction ys with
 | nil=>simp
 | cons y ys ih =>
  have h1:=h y (aD ..);have h2:=ih fun x hx=>h x (ah _ hx);rw [cu,yB,aR,pQ,pQ];omega
section
variable {P:aL} {w:bN} {K:ae} {mg:Str->Option af} {base:cF} {f fT fW:aa} {fd fdT fdW:cw}
seal PS PSs PE PA PT PW PI PG PGs PC
abbrev nN:List Str:=["_law_purse_here","_law_many","_law_letters","_law_first","_law_found","_law_k","_law_size","_law_tail"]
abbrev pN:List Str:=["_law_purse_here","_law_many"]
theorem scN:cv nN pN (aQ jj):={}
theorem ndN:((["_law_j"]:List Str)++nN).Nodup:=by decide +kernel
inductive zr (vs:List V) (H:Hp) (Q:VK) (_e:XK):Prop where
 | mk (p:aa) (n:Int) (_:vs=[.ref p,.int n]) (_:dS H p) (_:0<=n) (_:n<=9) (_:∀ (l:aa) (ss:List Str) (H':Hp),H l=none->H' l=some (.lst (ss.map V.str))->(ss.length:Int)=n->ss.Nodup->dS H' p->But p H H'->Q (.ref l) H'):zr vs H Q _e
def ya:Sp:=fun vs H Q _e=>zr vs H Q _e
theorem zt (D:Df K mg "_law_names" jj pN f fd) (DT:Df K mg "_law_take" eO pT fT fdT) (B:Bl mg):cm P w K mg base CX0 2 f fd pN ya:=by
 have GT:cm P w K mg base CX0 1 fT fdT pT lA:=jY DT B;refine D.F.ok scN (fun vs H Q E h=>?_) (fun cdv A outer s H vs Q E r1 h=>?_)
 ·obtain ⟨p,n,rfl,_⟩:=h;rfl
 obtain ⟨p,n,rfl,hp,hn0,hn9,q⟩:=h;refine ⟨_,ak (aZ (i:=2) scN.nd rfl (Or.inr rfl) cA)
  (ak (aZ (i:=3) scN.nd rfl (Or.inl rfl) (aO GT r1 (by rfl) DT.m DT.F.kp DT.b .nil bY (aS (pv 0) (dR aw ao))))
  (ak (aZ (i:=4) scN.nd rfl (Or.inl rfl) (dh ao))
  (ak (jy dy rfl (iL (by rfl) B.range (aS (pv 1) ao)) (cP (i:=5) scN.nd rfl (Or.inl rfl)) (ak (aZ (i:=6) scN.nd rfl (Or.inl rfl) (aO GT r1 (by rfl) DT.m DT.F.kp DT.b .nil bY (aS (pv 0) (dR aw ao))))
  (ak (pZ (i:=7) ["_law_j"] (iG.open (NN:=nN) (N:=nN) (sc:=aQ jj) rfl rfl (by decide +kernel) rfl (by decide +kernel) (by decide +kernel) rfl (by decide +kernel)) rfl scN.nd rfl (Or.inl rfl) (iL (by rfl) B.range (aS (pv 6) ao)) (fun _ _ _ _=>cP (i:=0) ndN rfl (Or.inl rfl)) (fun _ _ _ _=>kD) (fun _ _ _ _=>bT Ez (pv 3) (aO GT r1 (by rfl) DT.m DT.F.kp DT.b .nil bY (aS (pv 1) (dR aw ao))) (fun _ _=>rfl)))
  (aF (eK (kQ cy cJ cK gN (pv 4) (jL (cC zM (bT Ez (pv 2) (cC lX (cC ff (pv 3) (cC oR aw (pv 5))) aw) (fun _ _=>rfl)) (kQ PySem.F.plainAttrs_str PySem.F.slot_str_join PySem.F.type_str_join Ic cA (aS (pv 7) ao))) ao)))))))
  (aF (bQ (pv 4)))))),?_⟩
 have big:=fq;refine bR (cI ?_);refine aU ?_;dsimp only;refine bR (cI ?_);refine ⟨_,rfl,p,26,rfl,hp,by decide,by decide,fun first H1 f0 f1 hp1 b1=>?_⟩;refine aU ?_;dsimp only;refine bR (cI ?_);refine ⟨bH _,fun l hl=>?_⟩;have s3:=aA hl (.lst []);have nl:l≠p:=jg hp1 hl;have hlH:H l=none:=by
  cases e:H l with
  | none=>rfl
  | some o =>
   rw [b1 l o e nl] at hl
   cases hl
 refine aU ?_;dsimp only;refine bR ?_;refine ⟨_,rfl,n,rfl,by omega,by omega,kH (n:=n.toNat) (fun i σ G=>∃ (ss:List Str) (v6 v7 v8:Option V),σ=[some (.ref p),some (.int n),some (.str abc),some (.int first),some (.ref l),v6,v7,v8]/\i<=n.toNat/\G l=some (.lst (ss.map V.str))/\ss.length=i/\GN first 3 ss/\dS G p/\But p H G)
  ⟨[],none,none,none,rfl,bH _,ag,rfl,(fun i x e=>by cases e),hp1.same s3,b1.same s3⟩ ?_ ?_⟩
 ·rintro i σ G hi ⟨ss,v6,v7,v8,rfl,hi2,hG,hss,gn,pu,bt⟩;refine bR (cI ?_);refine ⟨_,rfl,p,6,rfl,pu,by decide,by decide,fun m G1 m0 m1 pu1 bt1=>?_⟩;refine aU ?_;dsimp only;have hG1:=bt1 _ _ hG nl;obtain ⟨k,rfl⟩:∃ k:Nat,m=(k:Int):=⟨m.toNat,by omega⟩;refine bR (cI ?_);refine xc (fun m G'=>m=k/\G'=G1) (fun R hR=>⟨_,rfl,hR k G1 ⟨rfl,rfl⟩⟩) (fun m G' h=>by omega) (fun m G' i ys G2=>∃ ts:List Str,ys=ts.map V.str/\ts.length=i/\(∀ x∈ts,x.length<=1)/\dS G2 p/\But p G1 G2) ?_ ?_ ?_ ?_
  ·rintro m G' ⟨rfl,rfl⟩;exact ⟨[],rfl,rfl,(fun x e=>by cases e),pu1,But.refl _ _⟩
  ·rintro m G' ⟨rfl,rfl⟩ i ys G2 hi ⟨ts,rfl,hts,_⟩;rw [ai];omega
  ·rintro m G' ⟨rfl,rfl⟩ j ys G2 hj ⟨ts,rfl,hts,lts,pu2,bt2⟩;refine aU ⟨rfl,?_⟩;unfold vR;refine iF ?_;refine ⟨_,rfl,_,rfl,p,26,rfl,pu2,by decide,by decide,fun r G3 r0 r1' pu3 bt3=>?_⟩;obtain ⟨c,hc⟩:=LW r0 r1';refine ⟨abc,_,c,rfl,rfl,xb,hc,ts++[⟨#[c]⟩],by rw [bV]; rfl,by rw [ax]; show _=j + 1; rw [hts]; rfl,fun x hx=>?_,pu3,bt2.trans bt3⟩
   rcases bU.mp hx with z | z
   ·exact lts x z
   ·rw [aH.mp z];exact aE 1
  ·rintro m G' ⟨rfl,rfl⟩ ys G2 ⟨ts,rfl,hts,lts,pu2,bt2⟩ lt hlt;refine aU ?_;dsimp only;have st:=aA hlt (.lst (ts.map V.str));have hG2:=st _ _ (bt2 _ _ hG1 nl);have pu3:=pu2.same st;obtain ⟨c,hc0,hc⟩:=IV (rP first 3 i).1 (rP first 3 i).2;have js:jsz "" ts<=5:=by
    have:=LZ (z:="") lts;have e0:("":Str).length=0:=by decide
    rw [e0,hts] at this;omega
   have jl:=Gi "" ts;refine ⟨_,rfl,.inl ⟨rfl,_,SqL.of hG2⟩,_,rfl,_,rfl,_,rfl,_,_,rfl,rfl,.inl ⟨by decide,by decide⟩,_,_,rfl,rfl,_,_,rfl,rfl,(by show (0:Int) < 26; decide),abc,_,c,rfl,rfl,xb,hc,rfl,_,rfl,_,lt,ts,rfl,rfl,.inl (SqL.of ag),by omega,_,_,rfl,rfl,?_,l,_,_,rfl,rfl,hG2,(by rw [ai]; omega),?_⟩
   ·show 1 + (CQ "" ts).length<=au;omega
   ·refine ⟨ss++[⟨#[c]⟩++CQ "" ts],_,_,_,rfl,by omega,by rw [bV]; exact ag,by rw [ax,hss]; rfl,gn.snoc (c:=c) (by rw [hss]; exact hc0) (x9 rfl),m7 pu3 nl,?_⟩
    ·intro b o e n;have nb:b≠l:=aG e hlH;rw [aK nb];exact st _ _ (bt2 _ _ (bt1 _ _ (bt _ _ e n) n) n)
 ·rintro σ G ⟨ss,v6,v7,v8,rfl,hi2,hG,hss,gn,pu,bt⟩;refine ⟨_,rfl,?_⟩;exact q l ss G hlH hG (by omega) (gn.nodup (by decide) (by omega)) pu bt
end
theorem eB.ref {bs qs:List Str} {H:Hp} {d:Dd} {v:V} (h:eB bs qs H d v):∃ t,v=.ref t:=by
 cases d <;> simp only [eB] at h
 ·obtain ⟨t,_,e,_⟩:=h;exact ⟨t,e⟩
 ·obtain ⟨t,_,e,_⟩:=h;exact ⟨t,e⟩
 ·obtain ⟨t,_,e,_⟩:=h;exact ⟨t,e⟩
 ·obtain ⟨t,_,e,_⟩:=h;exact ⟨t,e⟩
 ·obtain ⟨t,_,_,_,e,_⟩:=h;exact ⟨t,e⟩
 ·obtain ⟨t,_,_,_,e,_⟩:=h;exact ⟨t,e⟩
 ·obtain ⟨t,e,_⟩:=h;exact ⟨t,e⟩
theorem Tree.scal {H:Hp} {v:V} (h:Ao v):∀ n,Tree H n v
 | 0=>h
 | _ + 1=>.inl h
theorem Tree.atup {H:Hp} {a:aa} {xs:List V} {n:Nat} (h:H a=some (.tup xs)) (l:xs.length < 1000) (k:∀ x∈xs,Tree H n x):Tree H (n + 1) (.ref a):=.inr ⟨a,xs,rfl,.inr h,l,k⟩
theorem Tree.alst {H:Hp} {a:aa} {xs:List V} {n:Nat} (h:H a=some (.lst xs)) (l:xs.length < 1000) (k:∀ x∈xs,Tree H n x):Tree H (n + 1) (.ref a):=.inr ⟨a,xs,rfl,.inl h,l,k⟩
theorem ip.tree {bs qs:List Str} {H:Hp} {v:V} {f:Fm} (h:ip bs qs H v f):∀ n,f.depth<=n->Tree H n v:=by
 induction h with
 | num h1 _=>exact fun n hn=>match n,hn with
  | n + 1,_=>Tree.atup h1 (by show 2 < 1000; decide) fun x hx=>by
   simp only [ay,aY,or_false] at hx
   rcases hx with rfl | rfl <;> exact Tree.scal (by exact trivial) _
  | 0,hn=>absurd hn (by unfold Fm.depth; decide)
 | box h1 _=>exact fun n hn=>match n,hn with
  | n + 1,_=>Tree.atup h1 (by show 2 < 1000; decide) fun x hx=>by
   simp only [ay,aY,or_false] at hx
   rcases hx with rfl | rfl <;> exact Tree.scal (by exact trivial) _
  | 0,hn=>absurd hn (by unfold Fm.depth; decide)
 | long h1 _=>exact fun n hn=>match n,hn with
  | n + 1,_=>Tree.atup h1 (by show 2 < 1000; decide) fun x hx=>by
   simp only [ay,aY,or_false] at hx
   rcases hx with rfl | rfl <;> exact Tree.scal (by exact trivial) _
  | 0,hn=>absurd hn (by unfold Fm.depth; decide)
 | got h1=>exact fun n hn=>match n,hn with
  | n + 1,_=>Tree.atup h1 (by show 2 < 1000; decide) fun x hx=>by
   simp only [ay,aY,or_false] at hx
   rcases hx with rfl | rfl <;> exact Tree.scal (by exact trivial) _
  | 0,hn=>absurd hn (by unfold Fm.depth; decide)
 | now h1=>exact fun n hn=>match n,hn with
  | n + 1,_=>Tree.atup h1 (by show 1 < 1000; decide) fun x hx=>by
   simp only [ay,aY,or_false] at hx
   rcases hx with rfl
   exact Tree.scal (by exact trivial) _
  | 0,hn=>absurd hn (by unfold Fm.depth; decide)
 | two h1 _ _ _ ih1 ih2=>exact fun n hn=>match n,hn with
  | n + 1,hn=>Tree.atup h1 (by show 3 < 1000; decide) fun x hx=>by
   unfold Fm.depth at hn;simp only [ay,aY,or_false] at hx
   rcases hx with rfl | rfl | rfl
   ·exact Tree.scal (by exact trivial) _
   ·exact ih1 n (by omega)
   ·exact ih2 n (by omega)
  | 0,hn=>absurd hn (by unfold Fm.depth; omega)
mutual
theorem eB.tree {bs qs:List Str} {H:Hp}:∀ (d:Dd) (v:V) (n:Nat),eB bs qs H d v->2 * d.deep + 16<=n->Tree H n v
 | _,_,0,_,hn=>absurd hn (by omega)
 | .put x f,v,n + 1,h,hn=>by
  obtain ⟨t,u,rfl,h1,h2,h3⟩:=(by simpa only [eB] using h);refine Tree.atup h1 (by show 3 < 1000; decide) fun y hy=>?_;simp only [ay,aY,or_false] at hy
  rcases hy with rfl | rfl | rfl
  ·exact Tree.scal (by exact trivial) _
  ·exact Tree.scal (by exact trivial) _
  ·exact h3.1.tree n (by have:=h3.2; omega)
 | .push q f,v,n + 1,h,hn=>by
  obtain ⟨t,u,rfl,h1,h2,h3⟩:=(by simpa only [eB] using h);refine Tree.atup h1 (by show 3 < 1000; decide) fun y hy=>?_;simp only [ay,aY,or_false] at hy
  rcases hy with rfl | rfl | rfl
  ·exact Tree.scal (by exact trivial) _
  ·exact Tree.scal (by exact trivial) _
  ·exact h3.1.tree n (by have:=h3.2; omega)
 | .pull q x o,v,n + 1,h,hn=>by
  obtain ⟨t,u,rfl,h1,h2,h3,l,vs,rfl,h4,h5,h6⟩:=(by simpa only [eB] using h);unfold Dd.deep at hn;refine Tree.atup h1 (by show 4 < 1000; decide) fun y hy=>?_;simp only [ay,aY,or_false] at hy
  rcases hy with rfl | rfl | rfl | rfl
  ·exact Tree.scal (by exact trivial) _
  ·exact Tree.scal (by exact trivial) _
  ·exact Tree.scal (by exact trivial) _
  ·obtain ⟨m,rfl⟩:∃ m,n=m + 1:=⟨n - 1,by omega⟩;exact Tree.alst h4 h5 (eZ.tree o vs m h6 (by omega))
 | .draw x f,v,n + 1,h,hn=>by
  obtain ⟨t,u,rfl,h1,h2,h3⟩:=(by simpa only [eB] using h);refine Tree.atup h1 (by show 3 < 1000; decide) fun y hy=>?_;simp only [ay,aY,or_false] at hy
  rcases hy with rfl | rfl | rfl
  ·exact Tree.scal (by exact trivial) _
  ·exact Tree.scal (by exact trivial) _
  ·exact h3.1.tree n (by have:=h3.2; omega)
 | .send to sg sp rk a b,v,n + 1,h,hn=>by
  obtain ⟨t,u,u1,u2,rfl,h1,h2,h3,h4⟩:=(by simpa only [eB] using h);refine Tree.atup h1 (by show 7 < 1000; decide) fun y hy=>?_;simp only [ay,aY,or_false] at hy
  rcases hy with rfl | rfl | rfl | rfl | rfl | rfl | rfl
  ·exact Tree.scal (by exact trivial) _
  ·exact Tree.scal (by exact trivial) _
  ·exact Tree.scal (by exact trivial) _
  ·exact h2.1.tree n (by have:=h2.2; omega)
  ·exact Tree.scal (by exact trivial) _
  ·exact h3.1.tree n (by have:=h3.2; omega)
  ·exact h4.1.tree n (by have:=h4.2; omega)
 | .ife f x y,v,n + 1,h,hn=>by
  obtain ⟨t,u,u1,u2,rfl,h1,h2,⟨l,vs,rfl,g1,g2,g3⟩,l',vs',rfl,k1,k2,k3⟩:=(by simpa only [eB] using h);unfold Dd.deep at hn;refine Tree.atup h1 (by show 4 < 1000; decide) fun z hz=>?_;simp only [ay,aY,or_false] at hz;obtain ⟨m,rfl⟩:∃ m,n=m + 1:=⟨n - 1,by omega⟩
  rcases hz with rfl | rfl | rfl | rfl
  ·exact Tree.scal (by exact trivial) _
  ·exact h2.1.tree _ (by have:=h2.2; omega)
  ·exact Tree.alst g1 g2 (eZ.tree x vs m g3 (by omega))
  ·exact Tree.alst k1 k2 (eZ.tree y vs' m k3 (by omega))
 | .fin,v,n + 1,h,hn=>by
  obtain ⟨t,rfl,h1⟩:=(by simpa only [eB] using h);refine Tree.atup h1 (by show 1 < 1000; decide) fun y hy=>?_;simp only [ay,aY,or_false] at hy;rw [hy];exact Tree.scal (by exact trivial) _
theorem eZ.tree {bs qs:List Str} {H:Hp}:∀ (d:Ds) (vs:List V) (n:Nat),eZ bs qs H d vs->2 * d.deep + 16<=n->∀ x∈vs,Tree H n x
 | .nil,vs,n,h,hn=>by
  have e:vs=[]:=by simpa only [eZ] using h
  subst e;intro x hx
  cases hx
 | .cons d r,vs,n,h,hn=>by
  obtain ⟨v,vr,rfl,h1,h2⟩:=(by simpa only [eZ] using h);unfold Ds.deep at hn;intro x hx
  rcases ay.mp hx with rfl | hx
  ·exact eB.tree d _ n h1 (by omega)
  ·exact eZ.tree r vr n h2 (by omega) x hx
end
def xg (o:HO):Prop:=(∃ xs,o=.tup xs)\/∃ xs,o=.lst xs/\∀ (i:Int) (r:List V),xs≠.int i :: r
def d7 (H H':Hp):Prop:=∀ a o,H a=some o->xg o->H' a=some o
theorem d7.same {H H':Hp} (s:bj H H'):d7 H H':=fun a o e _=>s _ _ e
theorem d7.trans {H H1 H2:Hp} (a:d7 H H1) (b:d7 H1 H2):d7 H H2:=fun c o e n=>b _ _ (a _ _ e n) n
def Kp (own:List aa) (H G:Hp):Prop:=∀ b o,H b=some o->b∉own->G b=some o
theorem Kp.trans {own:List aa} {H G G':Hp} (a:Kp own H G) (b:Kp own G G'):Kp own H G':=fun c o e n=>b c o (a c o e n) n
theorem Kp.same {own:List aa} {H G:Hp} (s:bj H G):Kp own H G:=fun c o e _=>s _ _ e
theorem Kp.but {own:List aa} {H G:Hp} {p:aa} (s:But p H G) (m:p∈own):Kp own H G:=fun c o e n=>s _ _ e fun z=>n (by rw [z]; exact m)
theorem Kp.upd {own:List aa} {H:Hp} {a:aa} {o:HO} (m:a∈own):Kp own H (upd H a o):=fun c u e n=>by
 rw [aK fun z=>n (by rw [z]; exact m)];exact e
theorem Kp.keepI {own:List aa} {H G:Hp} (k:Kp own H G) (h:∀ a∈own,∃ (i:Int) (r:List V),H a=some (.lst (.int i :: r))):d7 H G:=fun a o e n=>k a o e fun m=>by
 obtain ⟨i,r,q⟩:=h a m;rw [q] at e
 cases e
 rcases n with ⟨xs,n⟩ | ⟨xs,n,y⟩
 ·cases n
 ·cases n;exact y i r rfl
theorem d7.but {H H':Hp} {p:aa} (pu:dS H p) (b:But p H H'):d7 H H':=Kp.keepI (own:=[p]) (Kp.but b aD) fun a m=>by
 obtain ⟨x,y,h⟩:=pu;rw [aH.mp m];exact ⟨x,_,h⟩
theorem kn (xs:List V):xg (.tup xs):=.inl ⟨xs,rfl⟩
theorem yb (ss:List Str):xg (.lst (ss.map V.str)):=.inr ⟨_,rfl,fun i r z=>by
 cases ss with
 | nil=>cases z
 | cons x xs=>cases z⟩
theorem FmI.keepI {bs qs:List Str} {H H':Hp} (k:d7 H H') {v:V} {f:Fm} (h:FmI bs qs H v f):FmI bs qs H' v f:=⟨h.1.mono fun t xs e=>k _ _ e (kn xs),h.2⟩
theorem eZ.ni {bs qs:List Str} {H:Hp} {d:Ds} {vs:List V} (h:eZ bs qs H d vs):xg (.lst vs):=.inr ⟨vs,rfl,fun i r z=>by
 subst z
 cases d with
 | nil =>
  simp only [eZ] at h
  cases h
 | cons d r =>
  obtain ⟨v,vr,e,h1,_⟩:=(by simpa only [eZ] using h)
  cases e;obtain ⟨t,e⟩:=h1.ref
  cases e⟩
def Tk (H H':Hp):Prop:=∀ (t:aa) (xs:List V),H t=some (.tup xs)->H' t=some (.tup xs)
def Nk (H H' H2:Hp):Prop:=∀ (l:aa) (xs:List V),H l=none->xg (.lst xs)->H' l=some (.lst xs)->H2 l=some (.lst xs)
def OwD (bs qs:List Str) (H H':Hp) (d:Dd) (v:V):Prop:=∀ H2,Tk H' H2->Nk H H' H2->eB bs qs H2 d v
def OwS (bs qs:List Str) (H H':Hp) (d:Ds) (vs:List V):Prop:=∀ H2,Tk H' H2->Nk H H' H2->eZ bs qs H2 d vs
theorem Tk.refl (H:Hp):Tk H H:=fun _ _ e=>e
theorem Nk.refl (H H':Hp):Nk H H' H':=fun _ _ _ _ e=>e
theorem OwS.now {bs qs:List Str} {H H':Hp} {d:Ds} {v:List V} (h:OwS bs qs H H' d v):eZ bs qs H' d v:=h H' (Tk.refl _) (Nk.refl _ _)
theorem d7.tk {H H':Hp} (k:d7 H H'):Tk H H':=fun t xs e=>k _ _ e (kn xs)
theorem d7.nk {H H1 H' H2:Hp} (k:d7 H' H1) (n:Nk H H1 H2):Nk H H' H2:=fun l xs h i e=>n l xs h i (k _ _ e i)
theorem OwS.keepI {bs qs:List Str} {H H' H1:Hp} {d:Ds} {v:List V} (h:OwS bs qs H H' d v) (k:d7 H' H1):OwS bs qs H H1 d v:=fun H2 t n=>h H2 (fun a xs e=>t a xs (k.tk a xs e)) (k.nk n)
def Dm (H G:Hp):Prop:=∀ a,G a=none->H a=none
theorem Dm.same {H G:Hp} (s:bj H G):Dm H G:=fun a n=>none_of s n
theorem Dm.trans {H G G':Hp} (a:Dm H G) (b:Dm G G'):Dm H G':=fun x n=>a x (b x n)
theorem OwD.base {bs qs:List Str} {H H0 H':Hp} {d:Dd} {v:V} (h:OwD bs qs H H' d v) (s:Dm H0 H):OwD bs qs H0 H' d v:=fun H2 t n=>h H2 t fun l xs hl i e=>n l xs (s l hl) i e
theorem OwS.base {bs qs:List Str} {H H0 H':Hp} {d:Ds} {v:List V} (h:OwS bs qs H H' d v) (s:Dm H0 H):OwS bs qs H0 H' d v:=fun H2 t n=>h H2 t fun l xs hl i e=>n l xs (s l hl) i e
theorem OwD.old {bs qs:List Str} {H H':Hp} {d:Dd} {v:V} {a:aa} {o:HO} (h:OwD bs qs H H' d v) (ol:H a≠none) (nt:∀ xs,H' a≠some (.tup xs)):OwD bs qs H (upd H' a o) d v:=fun H2 t n=>h H2 (fun b xs e=>t b xs (by rw [aK (fun z=>nt xs (by rw [<- z]; exact e))]; exact e)) fun l xs hl i e=>n l xs hl i (by rw [aK (fun z=>ol (by rw [<- z]; exact hl))]; exact e)
theorem OwS.old {bs qs:List Str} {H H':Hp} {d:Ds} {v:List V} {a:aa} {o:HO} (h:OwS bs qs H H' d v) (ol:H a≠none) (nt:∀ xs,H' a≠some (.tup xs)):OwS bs qs H (upd H' a o) d v:=fun H2 t n=>h H2 (fun b xs e=>t b xs (by rw [aK (fun z=>nt xs (by rw [<- z]; exact e))]; exact e)) fun l xs hl i e=>n l xs hl i (by rw [aK (fun z=>ol (by rw [<- z]; exact hl))]; exact e)
theorem FmI.tk {bs qs:List Str} {H H2:Hp} {v:V} {F:Fm} (h:FmI bs qs H v F) (t:Tk H H2):FmI bs qs H2 v F:=⟨h.1.mono t,h.2⟩
section
variable {bs qs:List Str} {H H':Hp} {t:aa} {u u1 u2:V} {F F1 F2:Fm} {x q:Str}
theorem Ma (h:H' t=some (.tup [.str "put",.str x,u])) (m:x∈bs) (f:FmI bs qs H' u F):OwD bs qs H H' (.put x F) (.ref t):=fun H2 k _=>by simp only [eB]; exact ⟨t,u,rfl,k _ _ h,m,f.tk k⟩
theorem IW (h:H' t=some (.tup [.str "push",.str q,u])) (m:q∈qs) (f:FmI bs qs H' u F):OwD bs qs H H' (.push q F) (.ref t):=fun H2 k _=>by simp only [eB]; exact ⟨t,u,rfl,k _ _ h,m,f.tk k⟩
theorem IX (h:H' t=some (.tup [.str "draw",.str x,u])) (m:x∈bs) (f:FmI bs qs H' u F):OwD bs qs H H' (.draw x F) (.ref t):=fun H2 k _=>by simp only [eB]; exact ⟨t,u,rfl,k _ _ h,m,f.tk k⟩
theorem Mb (h:H' t=some (.tup [.str "end"])):OwD bs qs H H' .fin (.ref t):=fun H2 k _=>by simp only [eB]; exact ⟨t,rfl,k _ _ h⟩
theorem IY {to rk:Int} {sg:Str} (h:H' t=some (.tup [.str "send",.int to,.str sg,u,.int rk,u1,u2])) (f:FmI bs qs H' u F) (f1:FmI bs qs H' u1 F1) (f2:FmI bs qs H' u2 F2):OwD bs qs H H' (.send to sg F rk F1 F2) (.ref t):=fun H2 k _=>by simp only [eB]; exact ⟨t,u,u1,u2,rfl,k _ _ h,f.tk k,f1.tk k,f2.tk k⟩
theorem IZ {l:aa} {xs:List V} {d:Ds} (h:H' t=some (.tup [.str "pull",.str q,.str x,.ref l])) (mq:q∈qs) (mx:x∈bs) (hl:H l=none) (e:H' l=some (.lst xs)) (z:xs.length < 1000) (D:OwS bs qs H H' d xs):OwD bs qs H H' (.pull q x d) (.ref t):=fun H2 k n=>by
 simp only [eB];exact ⟨t,.ref l,rfl,k _ _ h,mq,mx,l,xs,rfl,n l xs hl D.now.ni e,z,D H2 k n⟩
theorem Mc {l l':aa} {xs ys:List V} {d d':Ds} (h:H' t=some (.tup [.str "if",u,.ref l,.ref l'])) (f:FmI bs qs H' u F) (hl:H l=none) (e:H' l=some (.lst xs)) (z:xs.length < 1000) (D:OwS bs qs H H' d xs) (hl':H l'=none) (e':H' l'=some (.lst ys)) (z':ys.length < 1000) (D':OwS bs qs H H' d' ys):OwD bs qs H H' (.ife F d d') (.ref t):=fun H2 k n=>by
 simp only [eB];exact ⟨t,u,.ref l,.ref l',rfl,k _ _ h,f.tk k,⟨l,xs,rfl,n l xs hl D.now.ni e,z,D H2 k n⟩,l',ys,rfl,n l' ys hl' D'.now.ni e',z',D' H2 k n⟩
theorem yc:OwS bs qs H H' .nil []:=fun _ _ _=>by simp only [eZ]
end
theorem kE {H:Hp} {p lb:aa} {bs:List Str} (pu:dS H p) (hb:H lb=some (.lst (bs.map V.str))):lb≠p:=by
 obtain ⟨x,y,e⟩:=pu;refine mr hb e fun z=>?_
 cases bs with
 | nil=>cases z
 | cons b r=>cases z
theorem lB {bs:List Str} {r:Int} (h0:0<=r) (h1:r < bs.length):∃ x,atI (bs.map V.str) r=some (.str x)/\x∈bs:=by
 obtain ⟨j,rfl⟩:∃ j:Nat,r=(j:Int):=⟨r.toNat,by omega⟩;have lt:j < bs.length:=by omega
 exact ⟨bs[j],gR (by rw [bS,aj lt]; rfl),gH lt⟩
theorem ip.but {bs qs:List Str} {H H':Hp} {p:aa} {v:V} {f:Fm} (pu:dS H p) (b:But p H H') (h:ip bs qs H v f):ip bs qs H' v f:=h.mono fun t xs e=>d7.but pu b _ _ e (kn xs)
theorem iS {n:Int} (h:-1000000<=n/\n<=1000000):Wo n:=by
 have e:(10:Int) ^ 15=1000000000000000:=by decide
 unfold Wo;omega
def yd:List Str:=["plus","less","times","part","rest","below","same"]
theorem Gj {r:Int} (h0:0<=r) (h1:r < 7):∃ x,atI (yd.map V.str) r=some (.str x)/\x∈Bq:=by
 obtain ⟨x,hx,m⟩:=lB (bs:=yd) h0 h1;refine ⟨x,hx,?_⟩;have:∀ y∈yd,y∈Bq:=by decide +kernel
 exact this x m
section
variable {P:aL} {w:bN} {K:ae} {mg:Str->Option af} {base:cF} {f fT:aa} {fd fdT:cw} {bs qs:List Str}
seal PS PSs PE PA PT PW PI PG PGs PC
abbrev nSm:List Str:=["_law_purse_here","_law_boxes","_law_queues","_law_most","_law_sort","_law_word","_law_one"]
abbrev pSm:List Str:=["_law_purse_here","_law_boxes","_law_queues","_law_most"]
theorem I9:cv nSm pSm (aQ jm):={}
inductive J3 (bs qs:List Str) (n:Nat) (vs:List V) (H:Hp) (Q:VK) (_e:XK):Prop where
 | mk (p lb lq:aa) (d:Int) (_:vs=[.ref p,.ref lb,.ref lq,.int d]) (_:0<=d) (_:d < 3 * n) (_:dS H p) (_:H lb=some (.lst (bs.map V.str))) (_:H lq=some (.lst (qs.map V.str))) (_:(0 < bs.length/\bs.length<=9)) (_:(0 < qs.length/\qs.length<=9)) (_:∀ (v:V) (F:Fm) (H':Hp),ip bs qs H' v F->F.depth<=n->dS H' p->But p H H'->Q v H'):J3 bs qs n vs H Q _e
def Ja (bs qs:List Str) (n:Nat):Sp:=fun vs H Q _e=>J3 bs qs n vs H Q _e
theorem Jb {n:Nat} (D:Df K mg "_law_small" jm pSm f fd) (DT:Df K mg "_law_take" eO pT fT fdT) (B:Bl mg) (GR:cm P w K mg base CX0 (n + 1) f fd pSm (Ja bs qs n)):cm P w K mg base CX0 (n + 2) f fd pSm (Ja bs qs (n + 1)):=by
 have GT:cm P w K mg base CX0 1 fT fdT pT lA:=jY DT B;refine D.F.ok I9 (fun vs H Q E h=>?_) (fun cdv A outer s H vs Q E hr h=>?_)
 ·obtain ⟨p,lb,lq,d,rfl,_⟩:=h;rfl
 obtain ⟨p,lb,lq,d,rfl,d0,dn,pu,hb,hq,lbs,lqs,k⟩:=h;have r1:d5 1 _:=hr.mono (by omega);refine ⟨_,ak (aZ (i:=4) I9.nd rfl (Or.inl rfl) (aO GT r1 (by rfl) DT.m DT.F.kp DT.b .nil bY (aS (pv 0) (dR aw ao))))
  (ak (cS ((DX (bM uP (pv 3) aw (cj _)) (zH (bM uP (pv 4) aw (cj _)))).pt) (aF (bQ (bT cV (dh (jT (cR (dR cA (jL (cC kN (aO GT r1 (by rfl) DT.m DT.F.kp DT.b .nil bY (aS (pv 0) (dR aw ao))) aw) ao))) (jT (cR (dR cA (rO (bT cV (pv 1) (aO GT r1 (by rfl) DT.m DT.F.kp DT.b .nil bY (aS (pv 0) (jK (dB (eR K (by rfl)) (by rfl) B.len cG (aS (pv 1) ao)) ao))) (fun _ _=>rfl)) ao))) (jT (cR (dR cA ao)) (jT (cR (dR cA (jK (aO GT r1 (by rfl) DT.m DT.F.kp DT.b .nil bY (aS (pv 0) (dR aw ao))) ao))) (jT (cR (dR cA (rO (bT cV (pv 2) (aO GT r1 (by rfl) DT.m DT.F.kp DT.b .nil bY (aS (pv 0) (jK (dB (eR K (by rfl)) (by rfl) B.len cG (aS (pv 2) ao)) ao))) (fun _ _=>rfl)) ao))) (jT (cR (dR cA (jL (cC ff aw (aO GT r1 (by rfl) DT.m DT.F.kp DT.b .nil bY (aS (pv 0) (dR aw ao)))) ao))) ao))))))) (cC lX (pv 4) aw) (fun _ _=>rfl)))) cq)
  (ak (aZ (i:=5) I9.nd rfl (Or.inl rfl) (bT cV (dh (dR cA (dR cA (dR cA (dR cA (dR cA (dR cA (dR cA ao)))))))) (aO GT r1 (by rfl) DT.m DT.F.kp DT.b .nil bY (aS (pv 0) (dR aw ao))) (fun _ _=>rfl)))
  (ak (aZ (i:=6) I9.nd rfl (Or.inl rfl) (aO GR hr (by rfl) D.m D.F.kp D.b .nil bY (aS (pv 0) (aS (pv 1) (aS (pv 2) (jL (cC xt (pv 3) aw) ao))))))
  (aF (bQ (cR (aS (pv 5) (aS (pv 6) (jK (aO GR hr (by rfl) D.m D.F.kp D.b .nil bY (aS (pv 0) (aS (pv 1) (aS (pv 2) (jL (cC xt (pv 3) aw) ao))))) ao))))))))),?_⟩
 have big:=fq;refine bR (cI ?_);refine ⟨_,rfl,p,10,rfl,pu,by decide,by decide,fun so G so0 so1 puG bG=>?_⟩;refine aU ?_;dsimp only;have hbG:=bG _ _ hb (kE pu hb);have hqG:=bG _ _ hq (kE pu hq);have nb:=kE puG hbG;have nq:=kE puG hqG;refine bR ?_;refine pO (Det.or (AK rfl) fun _=>AK rfl) (fun c=>?_) (fun c=>?_)
 ·-- one of six
  refine fY ?_;refine ⟨_,rfl,p,7,rfl,puG,by decide,by decide,fun a1 G1 a10 a11 pu1 b1=>⟨_,_,rfl,rfl,lt2,fun t1 ht1=>?_⟩⟩;have q1:=aA ht1 (.tup [.str "number",.int (a1 - 1)]);have f1:ip bs qs (upd G1 t1 (.tup [.str "number",.int (a1 - 1)])) (.ref t1) (.num (a1 - 1)):=.num ag (iS (by omega));have pu1:=pu1.same q1;have hb1:=q1 _ _ (b1 _ _ hbG nb);have hq1:=q1 _ _ (b1 _ _ hqG nq);have b1:But p H (upd G1 t1 (.tup [.str "number",.int (a1 - 1)])):=(bG.trans b1).same q1;revert f1 pu1 hb1 hq1 b1;clear q1 ht1;generalize upd G1 t1 (.tup [.str "number",.int (a1 - 1)])=G1;intro f1 pu1 hb1 hq1 b1;refine ⟨_,rfl,_,rfl,_,rfl,lb,_,rfl,.inl (SqL.of hb1),p,_,rfl,pu1,by rw [ai]; omega,by rw [ai]; omega,fun a2 G2 a20 a21 pu2 b2=>?_⟩;rw [ai] at a21;obtain ⟨x,hx,mx⟩:=lB a20 a21;refine ⟨lb,_,_,_,rfl,rfl,SqL.of (b2 _ _ hb1 nb),hx,lt2,fun t2 ht2=>⟨Az,fun t3 ht3=>?_⟩⟩;have q2:=aA ht2 (.tup [.str "box",.str x]);have q3:=aA ht3 (.tup [.str "now"]);have f1:=(f1.but pu1 b2).mono fun t xs e=>q3 _ _ (q2 _ _ e);have f2:ip bs qs (upd (upd G2 t2 (.tup [.str "box",.str x])) t3 (.tup [.str "now"])) (.ref t2) (.box x):=.box (q3 _ _ ag) mx;have f3:ip bs qs (upd (upd G2 t2 (.tup [.str "box",.str x])) t3 (.tup [.str "now"])) (.ref t3) .now:=.now ag;have pu2:=(pu2.same q2).same q3;have hq2:=q3 _ _ (q2 _ _ (b2 _ _ hq1 nq));have b2:But p H (upd (upd G2 t2 (.tup [.str "box",.str x])) t3 (.tup [.str "now"])):=((b1.trans b2).same q2).same q3;revert f1 f2 f3 pu2 hq2 b2;clear q2 q3 ht2 ht3;generalize upd (upd G2 t2 (.tup [.str "box",.str x])) t3 (.tup [.str "now"])=G2;intro f1 f2 f3 pu2 hq2 b2;refine ⟨_,rfl,p,2,rfl,pu2,by decide,by decide,fun a4 G4 a40 a41 pu4 b4=>⟨lt2,fun t4 ht4=>?_⟩⟩;have q4:=aA ht4 (.tup [.str "got",.int a4]);have er:a4=if (decide (a4=1))=true then 1 else 0:=by
   by_cases c:a4=1
   ·rw [decide_eq_true c,if_pos rfl];exact c
   ·rw [decide_eq_false c,if_neg (by decide)];omega
  have f4:ip bs qs (upd G4 t4 (.tup [.str "got",.int a4])) (.ref t4) (.got (decide (a4=1))):=.got (by rw [ag,<- er]);have f1:=(f1.but pu2 b4).mono fun t xs e=>q4 _ _ e;have f2:=(f2.but pu2 b4).mono fun t xs e=>q4 _ _ e;have f3:=(f3.but pu2 b4).mono fun t xs e=>q4 _ _ e;have pu4:=pu4.same q4;have hq4:=q4 _ _ (b4 _ _ hq2 nq);have b4:But p H (upd G4 t4 (.tup [.str "got",.int a4])):=(b2.trans b4).same q4;revert f1 f2 f3 f4 pu4 hq4 b4;clear q4 ht4;generalize upd G4 t4 (.tup [.str "got",.int a4])=G4;intro f4 f1 f2 f3 pu4 hq4 b4;refine ⟨_,rfl,_,rfl,_,rfl,lq,_,rfl,.inl (SqL.of hq4),p,_,rfl,pu4,by rw [ai]; omega,by rw [ai]; omega,fun a5 G5 a50 a51 pu5 b5=>?_⟩;rw [ai] at a51;obtain ⟨y,hy,my⟩:=lB a50 a51;refine ⟨lq,_,_,_,rfl,rfl,SqL.of (b5 _ _ hq4 nq),hy,lt2,fun t5 ht5=>?_⟩;have q5:=aA ht5 (.tup [.str "long",.str y]);have f5:ip bs qs (upd G5 t5 (.tup [.str "long",.str y])) (.ref t5) (.long y):=.long ag my;have f1:=(f1.but pu4 b5).mono fun t xs e=>q5 _ _ e;have f2:=(f2.but pu4 b5).mono fun t xs e=>q5 _ _ e;have f3:=(f3.but pu4 b5).mono fun t xs e=>q5 _ _ e;have f4:=(f4.but pu4 b5).mono fun t xs e=>q5 _ _ e;have pu5:=pu5.same q5;have b5:But p H (upd G5 t5 (.tup [.str "long",.str y])):=(b4.trans b5).same q5;revert f1 f2 f3 f4 f5 pu5 b5;clear q5 ht5;generalize upd G5 t5 (.tup [.str "long",.str y])=G5;intro f5 f1 f2 f3 f4 pu5 b5;refine ⟨_,rfl,p,5,rfl,pu5,by decide,by decide,fun a6 G6 a60 a61 pu6 b6=>⟨_,_,rfl,rfl,lt2,fun t6 ht6=>⟨by show 6<=au; omega,fun l hl=>?_⟩⟩⟩;have q6:=(aA ht6 (.tup [.str "number",.int (1 + a6)])).trans (aA hl (.lst [.ref t1,.ref t2,.ref t3,.ref t4,.ref t5,.ref t6]));have f6:ip bs qs (upd (upd G6 t6 (.tup [.str "number",.int (1 + a6)])) l (.lst [.ref t1,.ref t2,.ref t3,.ref t4,.ref t5,.ref t6])) (.ref t6) (.num (1 + a6)):=.num ((aA hl _) _ _ ag) (iS (by omega));have g1:=(f1.but pu5 b6).mono fun t xs e=>q6 _ _ e;have g2:=(f2.but pu5 b6).mono fun t xs e=>q6 _ _ e;have g3:=(f3.but pu5 b6).mono fun t xs e=>q6 _ _ e;have g4:=(f4.but pu5 b6).mono fun t xs e=>q6 _ _ e;have g5:=(f5.but pu5 b6).mono fun t xs e=>q6 _ _ e;have pu7:=pu6.same q6;have b7:=(b5.trans b6).same q6;have hl7:upd (upd G6 t6 (.tup [.str "number",.int (1 + a6)])) l (.lst [.ref t1,.ref t2,.ref t3,.ref t4,.ref t5,.ref t6]) l=_:=ag;refine ⟨_,rfl,_,_,rfl,rfl,(by show (0:Int) < 6; decide),?_⟩;have m0:=gv so (show (6:Int)≠0 by decide);have m1:=fu so (show (0:Int) < 6 by decide);obtain ⟨v,F,hat,hF,hd⟩:∃ (v:V) (F:Fm),atI [V.ref t1,.ref t2,.ref t3,.ref t4,.ref t5,.ref t6] (so % 6)=some v/\ip bs qs (upd (upd G6 t6 (.tup [.str "number",.int (1 + a6)])) l (.lst [.ref t1,.ref t2,.ref t3,.ref t4,.ref t5,.ref t6])) v F/\F.depth<=1:=by
   have cs:so % 6=0\/so % 6=1\/so % 6=2\/so % 6=3\/so % 6=4\/so % 6=5:=by omega
   rcases cs with e | e | e | e | e | e <;> rw [e]
   ·exact ⟨_,_,rfl,g1,by show 1<=1; decide⟩
   ·exact ⟨_,_,rfl,g2,by show 1<=1; decide⟩
   ·exact ⟨_,_,rfl,g3,by decide⟩
   ·exact ⟨_,_,rfl,g4,by show 1<=1; decide⟩
   ·exact ⟨_,_,rfl,g5,by show 1<=1; decide⟩
   ·exact ⟨_,_,rfl,f6,by show 1<=1; decide⟩
  exact ⟨l,_,_,_,rfl,rfl,SqL.of hl7,hat,k v F _ hF (by omega) pu7 b7⟩
 ·rw [Bool.or_eq_false_iff] at c;have c1:=of_decide_eq_false c.1;refine n9 ?_;dsimp only
  -- of two
  refine bR (cI ?_);refine ⟨by show 7<=au; omega,fun l hl=>?_⟩;have ql:=aA hl (.lst (yd.map V.str));refine ⟨_,rfl,p,7,rfl,puG.same ql,by decide,by decide,fun r G1 r0 r1' pu1 b1=>?_⟩;have nlp:l≠p:=jg puG hl;obtain ⟨x,hx,mx⟩:=Gj r0 r1';refine ⟨l,_,_,_,rfl,rfl,SqL.of (b1 _ _ ag nlp),hx,?_⟩;refine aU ?_;dsimp only;have hb1:=b1 _ _ (ql _ _ hbG) nb;have hq1:=b1 _ _ (ql _ _ hqG) nq;have bb1:But p H G1:=(bG.same ql).trans b1;have dv:d / 2 < 3 * n:=by omega
  refine bR (cI ?_);refine ⟨_,rfl,_,rfl,_,rfl,_,rfl,_,_,rfl,rfl,⟨by decide,by omega⟩,p,lb,lq,d / 2,rfl,by omega,dv,pu1,hb1,hq1,lbs,lqs,fun v1 F1 G2 hF1 dF1 pu2 b2=>?_⟩;refine aU ?_;dsimp only;refine fY ?_;refine ⟨_,rfl,_,rfl,_,rfl,_,rfl,_,rfl,_,rfl,_,_,rfl,rfl,⟨by decide,by omega⟩,p,lb,lq,d / 2,rfl,by omega,dv,pu2,b2 _ _ hb1 nb,b2 _ _ hq1 nq,lbs,lqs,fun v2 F2 G3 hF2 dF2 pu3 b3=>⟨by show 3<=au; omega,fun t ht=>?_⟩⟩;have qt:=aA ht (.tup [.str x,v1,v2]);exact k _ (.two x F1 F2) _ (.two ag mx ((hF1.but pu2 b3).mono fun t xs e=>qt _ _ e) (hF2.mono fun t xs e=>qt _ _ e)) (by show max F1.depth F2.depth + 1<=n + 1; omega) (pu3.same qt) (((bb1.trans b2).trans b3).same qt)
theorem J4 (D:Df K mg "_law_small" jm pSm f fd) (DT:Df K mg "_law_take" eO pT fT fdT) (B:Bl mg):∀ n:Nat,cm P w K mg base CX0 (n + 1) f fd pSm (Ja bs qs n)
 | 0=>⟨fun vs H Q E h=>by
   obtain ⟨p,lb,lq,d,_,h0,h,_⟩:=h;omega,fun A outer s H args us vs Q E _ _ _ _ h=>by
   obtain ⟨p,lb,lq,d,_,h0,h,_⟩:=h;omega⟩
 | n + 1=>Jb D DT B (J4 D DT B n)
end
end My
namespace L2
open PySem PySem.Spec PyProof.Rows
section
variable {prog:aL} {w:bN} {A:bZ} {E:af->ar->Prop} {s:ar}
theorem Dh (ys:Array af) {j:Nat} (n:Nat) (l:j < ys.size):(ys.toList.drop j).take (n + 1)=ys[j] :: (ys.toList.drop (j + 1)).take n:=by
 rw [mj (by simpa using l),List.take_succ_cons];simp
theorem vF {u l:aa} {ys:Array af} (nu:l≠u):∀ (n j:Nat) (s:ar) (R:List af->ar->Prop),s.heap.IsListIter u l j->s.heap.IsList l ys->j + n<=ys.size ->
  (∀ g:cF,g.IsListIter u l (j + n)->oH u s.heap g->R ((ys.toList.drop j).take n) {s with heap:=g})->aW (bJ prog w) A (draw (.ref u) n) R E s
 | 0,j,s,R,hu,_,_,kR=>aP (by simpa using kR s.heap hu (Heap.SameBut.refl ..))
 | n + 1,j,s,R,hu,hy,hb,kR=>by
  have lj:j < ys.size:=by omega
  refine aq (m:=pyNext (.ref u)) (qE hu hy (x:=ys[j]) (by simp [lj]) fun g1 u1 s1=>aq (dD (vF nu n (j + 1) _ _ u1 (hy.extBut s1.extBut nu) (by omega) fun g2 u2 s2=>aP ?_)));have z:=kR g2 (by rw [<- Nat.add_assoc,Nat.add_right_comm]; exact u2) (s1.trans s2);rw [Dh ys n lj] at z;exact z
theorem ye {l:aa} {ys:Array af} {R:List af->ar->Prop} (hd:A.handled=none) (hy:s.heap.IsList l ys)
  (kR:∀ g,Heap.ExtBut s.heap.objs.size s.heap g->R ys.toList {s with heap:=g}):aW (bJ prog w) A (unpackItems (.ref l) ys.size none) R E s:=by
 have ne:l≠s.heap.objs.size:=by
  obtain ⟨o,e,_⟩:=hy;exact aN (aM e)
 unfold unpackItems notIterableAtAll;refine aq (aq (wpAny_specialOf hy.typeIs slot_list_iter.lookup (aP ?_)));simp only [jv,if_false];refine aq (dD (vL hy (aq (dD (vF ne ys.size 0 _ _ ⟨_,cz _ rfl,rfl,rfl⟩ (hy.push _) (by omega) fun g1 u1 s1=>?_)))));rw [lO,oO (by simp),if_neg (by simp)];refine aq (dD (q9 hd u1 ((hy.push _).extBut s1.extBut ne) (by simp) fun g2 e2=>?_));simp only [Option.isSome_none,jv,if_false];exact aP (kR g2 fun b o nb e=>e2 b o nb (s1.extBut b o nb (aJ _ e)))
end
section
variable {X:Cx} {pos:Pos}
def gLst (K:ae) (n:Nat) (t:TGs):TG:=fun v σ H Q=>∃ a xs,v=.ref a/\SqL K H a xs/\xs.length=n/\t xs σ H Q
theorem Gk {es:List cZ} {k:Nat} {t:TGs} {n:Nat} (hc:X.calm=true) (h:PGs X es t) (hn:(iC es X.env).length=n:=by rfl) (hf:(iC es X.env).findIdx? (·.1)=none:=by rfl):PG X (.Tuple es k pos) (gLst X.K n t):=by
 intro pins s σ H v u Q I r ⟨a,xs,ea,hq,hl,hw⟩;subst ea
 cases r;obtain ⟨its,rv,hp,_⟩:=I.list hq;rw [assign_Tuple];refine aq (uq ?_);unfold unpack;rw [show (iC es X.env).length=its.toArray.size by simp [hn,<- hl,rv.length],hf];refine aq (dD (ye (I.ok.hd hc) hp.isList fun g ex=>?_));exact h pins _ σ H xs _ Q (I.kept (t':=s.toks) fun b o e=>ex b o (aN (aM e)) e) (by simpa using rv) hw
end
end L2
namespace My
open PySem L2
theorem Gm {X:Cx} {st:dJ} {t:TS} (t':TS) (h:PS X st t) (k:∀ D σ H,t' D σ H->t D σ H):PS X st t':=fun pins s σ H D I q=>h pins s σ H D I (k D σ H q)
theorem Di {α:Type} {xs:List α} {i:Nat} {x:α} (h:xs[i]?=some x):xs.set i x=xs:=by
 obtain ⟨lt,e⟩:=aC.mp h;rw [<- e];exact List.set_getElem_self lt
structure Lf (H:Hp) (p lf:aa):Prop where
 pu:dS H p
 hl:∃ k:Int,H lf=some (.lst [.int k])
theorem Lf.int {H:Hp} {p lf:aa} (h:Lf H p lf):∀ a∈[p,lf],∃ (i:Int) (r:List V),H a=some (.lst (.int i :: r)):=fun a m=>by
 obtain ⟨x,y,e⟩:=h.pu;obtain ⟨z,e'⟩:=h.hl
 rcases ay.mp m with rfl | m
 ·exact ⟨x,_,e⟩
 ·rw [aH.mp m];exact ⟨z,_,e'⟩
theorem Lf.ne {H:Hp} {p lf:aa} (h:Lf H p lf):lf≠p:=by
 obtain ⟨x,y,e⟩:=h.pu;obtain ⟨z,e'⟩:=h.hl;exact mr e' e (by intro q; cases q)
theorem Lf.but {H H':Hp} {p lf:aa} (h:Lf H p lf) (b:But p H H') (pu:dS H' p):Lf H' p lf:=by
 obtain ⟨z,e'⟩:=h.hl;exact ⟨pu,z,b _ _ e' h.ne⟩
theorem Lf.same {H H':Hp} {p lf:aa} (h:Lf H p lf) (s:bj H H'):Lf H' p lf:=by
 obtain ⟨z,e'⟩:=h.hl;exact ⟨h.pu.same s,z,s _ _ e'⟩
def pR:Ds->Dd->Ds
 | .nil,d=>.cons d .nil
 | .cons a r,d=>.cons a (pR r d)
theorem BY {bs qs:List Str} {H:Hp} {d:Dd} {v:V} (hd:eB bs qs H d v):∀ (ds:Ds) (xs:List V),eZ bs qs H ds xs->eZ bs qs H (pR ds d) (xs++[v])
 | .nil,xs,h=>by
  have e:xs=[]:=by simpa only [eZ] using h
  subst e;unfold pR;simp only [eZ];exact ⟨v,[],rfl,hd,rfl⟩
 | .cons a r,xs,h=>by
  obtain ⟨u,ur,rfl,h1,h2⟩:=(by simpa only [eZ] using h);unfold pR;simp only [eZ];exact ⟨u,ur++[v],rfl,h1,BY hd r ur h2⟩
theorem BZ {m:Int} {d:Dd} (hd:d.toOk m):∀ ds:Ds,ds.toOk m->(pR ds d).toOk m
 | .nil,_=>⟨hd,trivial⟩
 | .cons a r,h=>⟨h.1,BZ hd r h.2⟩
theorem xh (d:Dd):∀ ds:Ds,(pR ds d).deep=max ds.deep d.deep
 | .nil=>by
  show max d.deep 0=max 0 d.deep;exact Nat.max_comm _ _
 | .cons a r=>by
  show max a.deep (pR r d).deep=max (max a.deep r.deep) d.deep;rw [xh d r];exact (Nat.max_assoc _ _ _).symm
theorem xi (d:Dd):∀ ds:Ds,(pR ds d).size=ds.size + d.size
 | .nil=>by
  show d.size + 0=0 + d.size;omega
 | .cons a r=>by
  show a.size + (pR r d).size=a.size + r.size + d.size;rw [xi d r];omega
theorem Gn {bs qs:List Str} {H H':Hp} {ds:Ds} {xs:List V} {d:Dd} {v:V} (a:OwS bs qs H H' ds xs) (b:OwD bs qs H H' d v):OwS bs qs H H' (pR ds d) (xs++[v]):=fun H2 k n=>BY (b H2 k n) ds xs (a H2 k n)
theorem Jc:∀ n,1<=ddz n
 | 0=>aE _
 | n + 1=>by
  show 1<=1 + 6 * ddz n;omega
theorem Kp.dm {own:List aa} {H G:Hp} (k:Kp own H G) (h:∀ a∈own,∃ o,G a=some o):Dm H G:=fun a n=>by
 cases e:H a with
 | none=>rfl
 | some o =>
  by_cases m:a∈own
  ·obtain ⟨u,q⟩:=h a m;rw [q] at n
   cases n
  ·rw [k a o e m] at n
   cases n
theorem Lf.there {H:Hp} {p lf:aa} (h:Lf H p lf):∀ a∈[p,lf],∃ o,H a=some o:=fun a m=>by
 obtain ⟨i,r,e⟩:=h.int a m;exact ⟨_,e⟩
def J6:TS:=fun D σ H=>∃ v13 v11 w,σ[13]?=some (some v13)/\σ[11]?=some (some v11)/\σ[8]?=some (some (.int w))/\∀ v,(v=v13\/v=v11)->D.nx (σ.set 13 (some v)) H
theorem Md {D:kL} {σ:St} {H:Hp} (h:J6 D σ H):Hn (yI (tOp rEq (xm 8) (tC (.int 8)))) (DZ (xm 11) (yF 13)) mw D σ H:=by
 obtain ⟨v13,v11,w,h13,h11,h8,k⟩:=h;refine pO (vE h8) (fun _=>cI ⟨_,h11,aU (k v11 (.inr rfl))⟩) (fun _=>n9 ?_);have z:=k v13 (.inl rfl);rw [Di h13] at z;exact z
def endJ:TS:=fun D σ H=>∃ (p:aa) (w:Int),σ[0]?=some (some (.ref p))/\σ[8]?=some (some (.int w))/\dS H p/\(∀ (H':Hp) (t:aa),dS H' p->But p H H'->H' t=none->D.rt (.ref t) (upd H' t (.tup [.str "end"])))/\∀ H',dS H' p->But p H H'->D.nx σ H'
structure Th (H:Hp) (lt lb lq ls:aa) (m:Int) (bs qs sgs:List Str):Prop where
 ht:H lt=some (.lst [.ref lb,.ref lq,.ref ls,.int m])
 hb:H lb=some (.lst (bs.map V.str))
 hq:H lq=some (.lst (qs.map V.str))
 hs:H ls=some (.lst (sgs.map V.str))
 lb:0 < bs.length/\bs.length<=9
 lq:0 < qs.length/\qs.length<=9
 ls:0 < sgs.length/\sgs.length<=9
 m0:0 < m/\m < 1000
theorem Jd {a:aa} {xs:List V}:xg (.lst (.ref a :: xs)):=.inr ⟨_,rfl,fun i r z=>by cases z⟩
theorem Th.keepI {H H':Hp} {lt lb lq ls:aa} {m:Int} {bs qs sgs:List Str} (k:d7 H H') (h:Th H lt lb lq ls m bs qs sgs):Th H' lt lb lq ls m bs qs sgs:=
 ⟨k _ _ h.ht Jd,k _ _ h.hb (yb _),k _ _ h.hq (yb _),k _ _ h.hs (yb _),h.lb,h.lq,h.ls,h.m0⟩
section
variable {P:aL} {w:bN} {K:ae} {mg:Str->Option af} {base:cF} {f fT fSm fS fE:aa} {fd fdT fdSm fdS fdE:cw} {bs qs sgs:List Str}
seal PS PSs PE PA PT PW PI PG PGs PC
abbrev nLd:List Str:=["_law_purse_here","_law_things","_law_left","_law_deep","_law_boxes","_law_queues","_law_signs","_law_many","_law_sort","_law_box","_law_queue","_law_one","_law_ones","_law_span","_law_sign","_law_rank"]
abbrev pLd:List Str:=["_law_purse_here","_law_things","_law_left","_law_deep"]
theorem rQ:cv nLd pLd (aQ gP):={}
abbrev nLs:List Str:=["_law_purse_here","_law_things","_law_left","_law_deep","_law_found","_law_k"]
abbrev pLs:List Str:=["_law_purse_here","_law_things","_law_left","_law_deep"]
theorem Me:cv nLs pLs (aQ hV):={}
inductive Ka (bs qs sgs:List Str) (n:Nat) (vs:List V) (H:Hp) (Q:VK) (_e:XK):Prop where
 | mk (p lt lb lq ls lf:aa) (m:Int) (d:Nat) (_:vs=[.ref p,.ref lt,.ref lf,.int d]) (_:d < n) (_:Lf H p lf) (_:Th H lt lb lq ls m bs qs sgs) (_:∀ (v:V) (dd:Dd) (H':Hp),OwD bs qs H H' dd v->dd.toOk m->dd.deep<=d + 1->dd.size<=ddz d->Lf H' p lf->Kp [p,lf] H H'->Q v H'):Ka bs qs sgs n vs H Q _e
def Je (bs qs sgs:List Str) (n:Nat):Sp:=fun vs H Q _e=>Ka bs qs sgs n vs H Q _e
inductive Kb (bs qs sgs:List Str) (n:Nat) (vs:List V) (H:Hp) (Q:VK) (_e:XK):Prop where
 | mk (p lt lb lq ls lf:aa) (m:Int) (d:Nat) (_:vs=[.ref p,.ref lt,.ref lf,.int d]) (_:d < n) (_:Lf H p lf) (_:Th H lt lb lq ls m bs qs sgs) (_:∀ (l:aa) (xs:List V) (ds:Ds) (H':Hp),H l=none->H' l=some (.lst xs)->xs.length < 1000->OwS bs qs H H' ds xs->ds.toOk m->ds.deep<=d->2 * ds.size + 1<=ddz d->Lf H' p lf->Kp [p,lf] H H'->Q (.ref l) H'):Kb bs qs sgs n vs H Q _e
def Mf (bs qs sgs:List Str) (n:Nat):Sp:=fun vs H Q _e=>Kb bs qs sgs n vs H Q _e
theorem B1 {n kk:Nat} (hk:3<=kk) (D:Df K mg "_law_live_deed" gP pLd f fd) (DS:Df K mg "_law_live_deeds" hV pLs fS fdS) (GS:cm P w K mg base CX0 kk fS fdS pLs (Mf bs qs sgs n)) (DSm:Df K mg "_law_small" jm pSm fSm fdSm) (DT:Df K mg "_law_take" eO pT fT fdT) (B:Bl mg) :
  cm P w K mg base CX0 (kk + 1) f fd pLd (Je bs qs sgs n):=by
 have GT:cm P w K mg base CX0 1 fT fdT pT lA:=jY DT B;have GSm:cm P w K mg base CX0 3 fSm fdSm pSm (Ja bs qs 2):=J4 DSm DT B 2;refine D.F.ok rQ (fun vs H Q E h=>?_) (fun cdv A outer s H vs Q E hr h=>?_)
 ·obtain ⟨p,lt,lb,lq,ls,lf,m,d,rfl,_⟩:=h;rfl
 obtain ⟨p,lt,lb,lq,ls,lf,m,d,rfl,dn,L,T,k⟩:=h;have r1:d5 1 _:=hr.mono (by omega);have r3:d5 3 _:=hr.mono hk;refine ⟨_,ak (qD (pv 1) (Gk rfl (eF (cP (i:=4) rQ.nd rfl (Or.inl rfl)) (eF (cP (i:=5) rQ.nd rfl (Or.inl rfl)) (eF (cP (i:=6) rQ.nd rfl (Or.inl rfl)) (eF (cP (i:=7) rQ.nd rfl (Or.inl rfl)) nj))))))
  (ak (qD (cC kN (bT cV (pv 2) aw (fun _ _=>rfl)) aw) (zI (pv 2) aw uX))
  (ak (aZ (i:=8) rQ.nd rfl (Or.inl rfl) (aO GT r1 (by rfl) DT.m DT.F.kp DT.b .nil bY (aS (pv 0) (dR aw ao))))
  (ak (aZ (i:=9) rQ.nd rfl (Or.inl rfl) (bT cV (pv 4) (aO GT r1 (by rfl) DT.m DT.F.kp DT.b .nil bY (aS (pv 0) (jK (dB (eR K (by rfl)) (by rfl) B.len cG (aS (pv 4) ao)) ao))) (fun _ _=>rfl)))
  (ak (aZ (i:=10) rQ.nd rfl (Or.inl rfl) (bT cV (pv 5) (aO GT r1 (by rfl) DT.m DT.F.kp DT.b .nil bY (aS (pv 0) (jK (dB (eR K (by rfl)) (by rfl) B.len cG (aS (pv 5) ao)) ao))) (fun _ _=>rfl)))
  (ak (aZ (i:=11) rQ.nd rfl (Or.inl rfl) (aO GSm r3 (by rfl) DSm.m DSm.F.kp DSm.b .nil bY (aS (pv 0) (aS (pv 4) (aS (pv 5) (dR aw ao))))))
  (ak (cS (bM uP (pv 8) aw (cj _)) (aF (bQ (cR (dR cA (aS (pv 9) (aS (pv 11) ao)))))) cq)
  (ak (cS (bM eG (pv 8) aw (cj _)) (aF (bQ (cR (dR cA (aS (pv 10) (aS (pv 11) ao)))))) cq)
  (ak (cS (bM eG (pv 8) aw (cj _)) (aF (bQ (cR (dR cA (aS (pv 10) (aS (pv 9) (jK (aO GS hr (by rfl) DS.m DS.F.kp DS.b .nil bY (aS (pv 0) (aS (pv 1) (aS (pv 2) (aS (pv 3) ao))))) ao))))))) cq)
  (ak (cS (bM eG (pv 8) aw (cj _)) (aF (bQ (cR (dR cA (aS (pv 9) (jT (cR (dR cA (jL (cC ff aw (aO GT r1 (by rfl) DT.m DT.F.kp DT.b .nil bY (aS (pv 0) (dR aw ao)))) ao))) ao)))))) cq)
  (ak (cS (bM eG (pv 8) aw (cj _)) (ak (aZ (i:=12) rQ.nd rfl (Or.inl rfl) (aO GS hr (by rfl) DS.m DS.F.kp DS.b .nil bY (aS (pv 0) (aS (pv 1) (aS (pv 2) (aS (pv 3) ao))))))
  (aF (bQ (cR (dR cA (aS (pv 11) (aS (pv 12) (jK (aO GS hr (by rfl) DS.m DS.F.kp DS.b .nil bY (aS (pv 0) (aS (pv 1) (aS (pv 2) (aS (pv 3) ao))))) ao)))))))) cq)
  (ak (Gm endJ (cS ((qC (bM eG (pv 8) aw (cj _)) (nh (bM eG (aO GT r1 (by rfl) DT.m DT.F.kp DT.b .nil bY (aS (pv 0) (dR aw ao))) aw (cj _)))).pt) (aF (bQ (cR (dR cA ao)))) cq) (fun D σ H q=>by
   obtain ⟨p,w,h0,h8,pu,k1,k2⟩:=q;refine ⟨_,h8,rfl,_,rfl,?_⟩;refine gS (fun _=>?_) (fun _=>?_)
   ·exact ⟨_,h0,p,6,rfl,pu,by decide,by decide,fun r G r0 r1' puG bG=>⟨rfl,_,rfl,gS (fun _=>⟨Az,fun t ht=>k1 G t puG bG ht⟩) (fun _=>k2 G puG bG)⟩⟩
   ·exact gi (k2 H pu (But.refl _ _))))
  (ak (aZ (i:=13) rQ.nd rfl (Or.inl rfl) (cR (dR cA (jL (cC ff aw (aO GT r1 (by rfl) DT.m DT.F.kp DT.b .nil bY (aS (pv 0) (dR aw ao)))) ao))))
  (ak (Gm J6 (cS (bM eG (pv 8) aw (cj _)) (aF (aZ (i:=13) rQ.nd rfl (Or.inl rfl) (pv 11))) cq) (fun D σ H q=>Md q))
  (ak (aZ (i:=14) rQ.nd rfl (Or.inl rfl) (bT cV (pv 6) (aO GT r1 (by rfl) DT.m DT.F.kp DT.b .nil bY (aS (pv 0) (jK (dB (eR K (by rfl)) (by rfl) B.len cG (aS (pv 6) ao)) ao))) (fun _ _=>rfl)))
  (ak (aZ (i:=15) rQ.nd rfl (Or.inl rfl) (aO GT r1 (by rfl) DT.m DT.F.kp DT.b .nil bY (aS (pv 0) (dR aw ao))))
  (aF (bQ (cR (dR cA (jK (aO GT r1 (by rfl) DT.m DT.F.kp DT.b .nil bY (aS (pv 0) (aS (pv 7) ao))) (aS (pv 14) (aS (pv 13) (aS (pv 15) (aS (pv 11) (jT (cR (dR cA ao)) ao))))))))))))))))))))))))),?_⟩
 have big:=fq;have mp:p∈[p,lf]:=aD;have dz:=Jc d;have mf:lf∈[p,lf]:=ah _ aD
 -- the names, one less is left
 refine bR (cI ?_);refine ⟨_,rfl,lt,_,rfl,SqL.of T.ht,rfl,_,_,rfl,_,_,rfl,_,_,rfl,_,_,rfl,rfl,?_⟩;dsimp only;refine bR (cI ?_);obtain ⟨kl,hkl⟩:=L.hl;refine ⟨_,rfl,lf,_,_,_,rfl,rfl,SqL.of hkl,rfl,_,_,rfl,rfl,?_⟩;refine ⟨_,rfl,lf,_,_,0,rfl,rfl,hkl,rfl,?_⟩;dsimp only;have L0:Lf (upd H lf (.lst ([V.int kl].set 0 (.int (kl - 1))))) p lf:=⟨m7 L.pu L.ne,kl - 1,ag⟩;have k0:Kp [p,lf] H (upd H lf (.lst ([V.int kl].set 0 (.int (kl - 1))))):=Kp.upd mf;have T0:=T.keepI (k0.keepI L.int);revert L0 k0 T0;generalize upd H lf (.lst ([V.int kl].set 0 (.int (kl - 1))))=G0;intro L0 k0 T0
 -- the sort, a box, a queue, a formula
 refine bR (cI ?_);refine ⟨_,rfl,p,12,rfl,L0.pu,by decide,by decide,fun so G1 so0 so1 pu1 b1=>?_⟩;refine aU ?_;dsimp only;have L1:=L0.but b1 pu1;have k1:Kp [p,lf] H G1:=k0.trans (Kp.but b1 mp);have T1:=T0.keepI (d7.but L0.pu b1);have lb9:=T.lb;have lq9:=T.lq;have ls9:=T.ls;refine bR (cI ?_);refine ⟨_,rfl,_,rfl,_,rfl,lb,_,rfl,.inl (SqL.of T1.hb),p,_,rfl,pu1,by rw [ai]; omega,by rw [ai]; omega,fun r G2 r0 r1' pu2 b2=>?_⟩;rw [ai] at r1';obtain ⟨x,hx,mx⟩:=lB r0 r1';have L2':=L1.but b2 pu2;have k2:Kp [p,lf] H G2:=k1.trans (Kp.but b2 mp);have T2:=T1.keepI (d7.but L1.pu b2);refine ⟨lb,_,_,_,rfl,rfl,SqL.of T2.hb,hx,?_⟩;refine aU ?_;dsimp only;refine bR (cI ?_);refine ⟨_,rfl,_,rfl,_,rfl,lq,_,rfl,.inl (SqL.of T2.hq),p,_,rfl,pu2,by rw [ai]; omega,by rw [ai]; omega,fun r3' G3 r30 r31 pu3 b3=>?_⟩;rw [ai] at r31;obtain ⟨y,hy,my⟩:=lB r30 r31;have L3:=L2'.but b3 pu3;have k3:Kp [p,lf] H G3:=k2.trans (Kp.but b3 mp);have T3:=T2.keepI (d7.but L2'.pu b3);refine ⟨lq,_,_,_,rfl,rfl,SqL.of T3.hq,hy,?_⟩;refine aU ?_;dsimp only;refine bR (cI ?_);refine ⟨_,rfl,_,rfl,_,rfl,p,lb,lq,5,rfl,by decide,by decide,pu3,T3.hb,T3.hq,lb9,lq9,fun vf F G hF dF puG bG=>?_⟩;refine aU ?_;dsimp only;have L4:=L3.but bG puG;have kG:Kp [p,lf] H G:=k3.trans (Kp.but bG mp);have T4:=T3.keepI (d7.but L3.pu bG);have dmG:Dm H G:=kG.dm L4.there;have fI:FmI bs qs G vf F:=⟨hF,by omega⟩;clear k3 k2 k1 k0 L3 L2' L1 L0 T3 T2 T1 T0 b3 b2 b1 pu3 pu2 pu1 bG;refine bR ?_;refine pO (AK rfl) (fun _=>?_) (fun _=>?_)
 ·refine fY ⟨_,rfl,_,rfl,by show 3<=au; omega,fun t ht=>?_⟩;have st_:=aA ht (.tup [.str "put",.str x,vf]);exact k _ (.put x F) _ (Ma ag mx (fI.keepI (d7.same st_))) trivial (bH _) dz (L4.same st_) (kG.trans (Kp.same st_))
 refine n9 ?_;dsimp only;refine bR ?_;refine pO (vE rfl) (fun _=>?_) (fun _=>?_)
 ·refine fY ⟨_,rfl,_,rfl,by show 3<=au; omega,fun t ht=>?_⟩;have st_:=aA ht (.tup [.str "push",.str y,vf]);exact k _ (.push y F) _ (IW ag my (fI.keepI (d7.same st_))) trivial (bH _) dz (L4.same st_) (kG.trans (Kp.same st_))
 refine n9 ?_;dsimp only;refine bR ?_;refine pO (vE rfl) (fun _=>?_) (fun _=>?_)
 ·refine fY ⟨_,rfl,_,rfl,_,rfl,_,rfl,_,rfl,_,rfl,p,lt,lb,lq,ls,lf,m,d,rfl,dn,L4,T4,fun l1 xs1 ds1 G1 hl1 h1 len1 O1 t1 dp1 sz1 L1 k1=>⟨by show 4<=au; omega,fun t ht=>?_⟩⟩;have st_:=aA ht (.tup [.str "pull",.str y,.str x,.ref l1]);refine k _ (.pull y x ds1) _ (IZ ag my mx (dmG l1 hl1) (st_ _ _ h1) len1 ((O1.base dmG).keepI (d7.same st_))) t1 ?_ ?_ (L1.same st_) ((kG.trans k1).trans (Kp.same st_))
  ·show ds1.deep + 1<=d + 1;omega
  ·show ds1.size + 1<=ddz d;omega
 refine n9 ?_;dsimp only;refine bR ?_;refine pO (vE rfl) (fun _=>?_) (fun _=>?_)
 ·refine fY ⟨_,rfl,_,rfl,p,9,rfl,puG,by decide,by decide,fun a G1 a0 a1 pu1 b1=>⟨_,_,rfl,rfl,lt2,fun t1 ht1=>⟨by show 3<=au; omega,fun t ht=>?_⟩⟩⟩;have s1:=aA ht1 (.tup [.str "number",.int (1 + a)]);have st_:=aA ht (.tup [.str "draw",.str x,.ref t1]);exact k _ (.draw x (.num (1 + a))) _ (IX ag mx ⟨.num (st_ _ _ ag) (iS (by omega)),by show 1<=15; decide⟩) trivial (bH _) dz (((L4.but b1 pu1).same s1).same st_) (((kG.trans (Kp.but b1 mp)).trans (Kp.same s1)).trans (Kp.same st_))
 refine n9 ?_;dsimp only;refine bR ?_;refine pO (vE rfl) (fun _=>?_) (fun _=>?_)
 ·refine bR (cI ?_);refine ⟨_,rfl,_,rfl,_,rfl,_,rfl,p,lt,lb,lq,ls,lf,m,d,rfl,dn,L4,T4,fun l1 xs1 ds1 G1 hl1 h1 len1 O1 t1 dp1 sz1 L1 k1=>?_⟩;refine aU ?_;dsimp only;have ki1:=k1.keepI L4.int;have T5:=T4.keepI ki1;have dm1:Dm G G1:=k1.dm L1.there;refine fY ⟨_,rfl,_,rfl,_,rfl,_,rfl,_,rfl,_,rfl,p,lt,lb,lq,ls,lf,m,d,rfl,dn,L1,T5,fun l2 xs2 ds2 G2 hl2 h2 len2 O2 t2 dp2 sz2 L2' k2=>⟨by show 4<=au; omega,fun t ht=>?_⟩⟩;have ki2:=k2.keepI L1.int;have st_:=aA ht (.tup [.str "if",vf,.ref l1,.ref l2]);refine k _ (.ife F ds1 ds2) _ (Mc ag (fI.keepI ((ki1.trans ki2).trans (d7.same st_))) (dmG l1 hl1) (st_ _ _ (ki2 _ _ h1 O1.now.ni)) len1 ((O1.base dmG).keepI (ki2.trans (d7.same st_))) (dmG l2 (dm1 l2 hl2)) (st_ _ _ h2) len2 ((O2.base (dmG.trans dm1)).keepI (d7.same st_))) ⟨t1,t2⟩ ?_ ?_ (L2'.same st_) (((kG.trans k1).trans k2).trans (Kp.same st_))
  ·show max ds1.deep ds2.deep + 1<=d + 1;omega
  ·show ds1.size + ds2.size + 1<=ddz d;omega
 refine n9 ?_;dsimp only;refine bR ?_;refine ⟨p,so,rfl,rfl,puG,fun H' t pu' b' ht=>?_,fun G1 pu1 b1=>?_⟩
 ·have st_:=aA ht (.tup [.str "end"]);exact k _ .fin _ (Mb ag) trivial (bH _) dz ((L4.but b' pu').same st_) ((kG.trans (Kp.but b' mp)).trans (Kp.same st_))
 dsimp only;have L5:=L4.but b1 pu1;have k5:Kp [p,lf] H G1:=kG.trans (Kp.but b1 mp);have ki5:=d7.but puG b1;have T5:=T4.keepI ki5;refine bR (cI ?_);refine ⟨_,rfl,p,9,rfl,pu1,by decide,by decide,fun a G2 a0 a1 pu2 b2=>⟨_,_,rfl,rfl,lt2,fun t1 ht1=>?_⟩⟩;have s1:=aA ht1 (.tup [.str "number",.int (1 + a)]);refine aU ?_;dsimp only;have ki6:=(ki5.trans (d7.but pu1 b2)).trans (d7.same s1);have T6:=T4.keepI ki6;have L6:=(L5.but b2 pu2).same s1;have k6:Kp [p,lf] H (upd G2 t1 (.tup [.str "number",.int (1 + a)])):=(k5.trans (Kp.but b2 mp)).trans (Kp.same s1);have f1:=fI.keepI ki6;have f2:FmI bs qs (upd G2 t1 (.tup [.str "number",.int (1 + a)])) (.ref t1) (.num (1 + a)):=⟨.num ag (iS (by omega)),by show 1<=15; decide⟩;revert T6 L6 k6 f1 f2;clear ki6 s1 ht1;generalize upd G2 t1 (.tup [.str "number",.int (1 + a)])=G6;intro T6 L6 k6 f1 f2;refine bR ?_;refine ⟨_,_,_,rfl,rfl,rfl,fun vs hvs=>?_⟩;obtain ⟨SF,hSF⟩:∃ SF,FmI bs qs G6 vs SF:=by
  rcases hvs with rfl | rfl
  ·exact ⟨_,f2⟩
  ·exact ⟨_,f1⟩
 dsimp only;refine bR (cI ?_);refine ⟨_,rfl,_,rfl,_,rfl,ls,_,rfl,.inl (SqL.of T6.hs),p,_,rfl,L6.pu,by rw [ai]; omega,by rw [ai]; omega,fun r7 G7 r70 r71 pu7 b7=>?_⟩;rw [ai] at r71;obtain ⟨z,hz,mz⟩:=lB r70 r71;have ki7:=d7.but L6.pu b7;have T7:=T6.keepI ki7;refine ⟨ls,_,_,_,rfl,rfl,SqL.of T7.hs,hz,?_⟩;refine aU ?_;dsimp only;refine bR (cI ?_);refine ⟨_,rfl,p,3,rfl,pu7,by decide,by decide,fun r8 G8 r80 r81 pu8 b8=>?_⟩;refine aU ?_;dsimp only;have mm:=T.m0;refine fY ⟨_,rfl,_,rfl,p,m,rfl,pu8,by omega,by omega,fun r9 G9 r90 r91 pu9 b9=>⟨_,rfl,_,rfl,_,rfl,_,rfl,Az,fun t9 ht9=>⟨by show 7<=au; omega,fun t ht=>?_⟩⟩⟩;have s9:=aA ht9 (.tup [.str "now"]);have st_:=aA ht (.tup [.str "send",.int r9,.str z,vs,.int r8,vf,.ref t9]);have ka:=(((ki7.trans (d7.but pu7 b8)).trans (d7.but pu8 b9)).trans (d7.same s9)).trans (d7.same st_);exact k _ (.send r9 z SF r8 F .now) _ (IY ag (hSF.keepI ka) (f1.keepI ka) ⟨.now (st_ _ _ ag),by decide⟩) ⟨r90,r91⟩ (bH _) dz (((((L6.but b7 pu7).but b8 pu8).but b9 pu9).same s9).same st_) (((((k6.trans (Kp.but b7 mp)).trans (Kp.but b8 mp)).trans (Kp.but b9 mp)).trans (Kp.same s9)).trans (Kp.same st_))
end
structure Gro (bs qs:List Str) (m:Int) (dp S:Nat) (B G:Hp) (l0:aa) (i:Nat):Prop where
 ex:∃ (xs:List V) (ds:Ds),G l0=some (.lst xs)/\xs.length<=i/\OwS bs qs B G ds xs/\ds.toOk m/\ds.deep<=dp/\ds.size<=i * S
theorem Gro.up {bs qs:List Str} {m:Int} {dp S:Nat} {B G:Hp} {l0:aa} {i:Nat} (h:Gro bs qs m dp S B G l0 i):Gro bs qs m dp S B G l0 (i + 1):=by
 obtain ⟨xs,ds,h1,h2,h3,h4,h5,h6⟩:=h.ex;exact ⟨xs,ds,h1,by omega,h3,h4,h5,dH h6 (qP _ (gc _))⟩
theorem Gro.step {bs qs:List Str} {m:Int} {dp S:Nat} {B G G3:Hp} {p lf l0:aa} {i:Nat} {xs:List V} {ds:Ds} {v:V} {dd:Dd} (n0:l0∉[p,lf]) (L:Lf G p lf) (k:Kp [p,lf] G G3) (hB:B l0≠none) (dm:Dm B G) (hx:G l0=some (.lst xs)) (lx:xs.length<=i) (O:OwS bs qs B G ds xs) (to:ds.toOk m) (d1:ds.deep<=dp) (sz:ds.size<=i * S)
  (hO:OwD bs qs G G3 dd v) (t:dd.toOk m) (d2:dd.deep<=dp) (s2:dd.size<=S):Gro bs qs m dp S B (upd G3 l0 (.lst (xs++[v]))) l0 (i + 1):=by
 have hx3:=k _ _ hx n0;have ol:G l0≠none:=by
  rw [hx];intro z
  cases z
 have nt3:∀ ys,G3 l0≠some (.tup ys):=fun ys z=>by
  rw [hx3] at z
  cases z
 refine ⟨xs++[v],pR ds dd,ag,by rw [ax]; show xs.length + 1<=i + 1; omega,Gn ((O.keepI (k.keepI L.int)).old hB nt3) ((hO.old ol nt3).base dm),BZ t ds to,by rw [xh]; omega,?_⟩;rw [xi,pQ];omega
theorem Lf.put {G:Hp} {p lf l0:aa} {o:HO} (L:Lf G p lf) (n0:l0∉[p,lf]):Lf (upd G l0 o) p lf:=by
 obtain ⟨x,y,e⟩:=L.pu;obtain ⟨z,e'⟩:=L.hl;exact ⟨⟨x,y,bz e (fun q=>n0 (by rw [<- q]; exact aD))⟩,z,bz e' (fun q=>n0 (by rw [<- q]; exact ah _ aD))⟩
section
variable {P:aL} {w:bN} {K:ae} {mg:Str->Option af} {base:cF} {f fT fSm fS fE:aa} {fd fdT fdSm fdS fdE:cw} {bs qs sgs:List Str}
seal PS PSs PE PA PT PW PI PG PGs PC
theorem Jf {n kk:Nat} (hk:1<=kk) (D:Df K mg "_law_live_deeds" hV pLs f fd) (DE:Df K mg "_law_live_deed" gP pLd fE fdE) (GE:cm P w K mg base CX0 kk fE fdE pLd (Je bs qs sgs n)) (DT:Df K mg "_law_take" eO pT fT fdT) (B:Bl mg) :
  cm P w K mg base CX0 (kk + 1) f fd pLs (Mf bs qs sgs (n + 1)):=by
 have GT:cm P w K mg base CX0 1 fT fdT pT lA:=jY DT B;refine D.F.ok Me (fun vs H Q E h=>?_) (fun cdv A outer s H vs Q E hr h=>?_)
 ·obtain ⟨p,lt,lb,lq,ls,lf,m,d,rfl,_⟩:=h;rfl
 obtain ⟨p,lt,lb,lq,ls,lf,m,d,rfl,dn,L,T,k⟩:=h;have r1:d5 1 _:=hr.mono hk;refine ⟨_,ak (aZ (i:=4) Me.nd rfl (Or.inl rfl) (dh ao))
  (ak (cS (bM wj (pv 3) aw (cj _)) (aF (jy dy rfl (iL (by rfl) B.range (jK (aO GT r1 (by rfl) DT.m DT.F.kp DT.b .nil bY (aS (pv 0) (dR aw ao))) ao)) (cP (i:=5) Me.nd rfl (Or.inl rfl)) (aF (cS (bM wj (bT cV (pv 2) aw (fun _ _=>rfl)) aw (cj _)) (aF (eK (kQ cy cJ cK gN (pv 4) (jK (aO GE hr (by rfl) DE.m DE.F.kp DE.b .nil bY (aS (pv 0) (aS (pv 1) (aS (pv 2) (jL (cC kN (pv 3) aw) ao))))) ao)))) cq)))) cq)
  (aF (bQ (pv 4)))),?_⟩
 have big:=fq;have mp:p∈[p,lf]:=aD;refine bR (cI ?_);refine ⟨bH _,fun l0 hl0=>?_⟩;have s0:=aA hl0 (.lst []);refine aU ?_;dsimp only;have n0:l0∉[p,lf]:=fun z=>by
  obtain ⟨i,r,e⟩:=L.int l0 z;rw [hl0] at e
  cases e
 have hB:upd H l0 (.lst []) l0≠none:=by
  rw [ag];intro z
  cases z
 refine bR ?_;refine pO (LV rfl) (fun c=>?_) (fun c=>?_)
 ·have c:=of_decide_eq_true c;obtain ⟨e,rfl⟩:∃ e,d=e + 1:=⟨d - 1,by omega⟩;have em:((e + 1:Nat):Int) - 1=(e:Int):=by omega
  refine ⟨_,rfl,p,3,rfl,L.pu.same s0,by decide,by decide,fun r G r0 r1' puG bG=>⟨r,rfl,by omega,by omega,?_⟩⟩;have LG:=(L.same s0).but bG puG;have kG:Kp [p,lf] H G:=(Kp.same s0).trans (Kp.but bG mp);have kB:Kp [p,lf] (upd H l0 (.lst [])) G:=Kp.but bG mp;have hl0G:G l0=some (.lst []):=bG _ _ ag (fun z=>n0 (by rw [z]; exact mp));refine kH (n:=r.toNat) (fun i σ G'=>∃ (v5:Option V),σ=[some (.ref p),some (.ref lt),some (.ref lf),some (.int (e + 1:Nat)),some (.ref l0),v5]/\i<=2/\Gro bs qs m (e + 1) (ddz e) (upd H l0 (.lst [])) G' l0 i/\Lf G' p lf/\Kp [p,lf] H G'/\Dm (upd H l0 (.lst [])) G')
   ⟨_,rfl,by decide,⟨[],.nil,hl0G,aE _,yc,trivial,bH _,bH _⟩,LG,kG,kB.dm LG.there⟩ ?_ ?_
  ·rintro i σ G1 hi ⟨v5,rfl,i2,gr,L1,k1,dm1⟩;obtain ⟨c0,hc⟩:=L1.hl;refine jQ ?_;refine ⟨_,rfl,lf,_,_,_,rfl,rfl,SqL.of hc,rfl,_,_,rfl,rfl,_,rfl,?_⟩;refine gS (fun _=>?_) (fun _=>?_)
   ·obtain ⟨xs,ds,h1,h2,h3,h4,h5,h6⟩:=gr.ex;have T1:=T.keepI (k1.keepI L.int);refine ⟨_,rfl,.inl ⟨rfl,_,SqL.of h1⟩,_,rfl,_,rfl,_,rfl,_,rfl,_,_,rfl,rfl,p,lt,lb,lq,ls,lf,m,e,(by show [V.ref p,V.ref lt,V.ref lf,V.int (((e + 1:Nat):Int) - 1)]=_; rw [em]),by omega,L1,T1,fun v dd G3 hO t dp' sz3 L3 k13=>?_⟩;refine ⟨l0,xs,v,rfl,rfl,k13 _ _ h1 n0,by omega,?_⟩;refine ⟨_,rfl,by omega,Gro.step n0 L1 k13 hB dm1 h1 h2 h3 h4 h5 h6 hO t (by omega) sz3,L3.put n0,fun b o eb nb=>bz ((k1.trans k13) b o eb nb) (aG eb hl0),fun a na=>?_⟩
    by_cases ca:a=l0
    ·rw [ca,ag] at na
     cases na
    ·rw [aK ca] at na;exact dm1 a (k13.dm L3.there a na)
   ·exact ⟨_,rfl,by omega,gr.up,L1,k1,dm1⟩
  ·rintro σ G1 ⟨v5,rfl,i2,gr,L1,k1,dm1⟩;obtain ⟨xs,ds,h1,h2,h3,h4,h5,h6⟩:=gr.ex;refine n9 ?_;dsimp only;refine fY ⟨_,rfl,k l0 xs ds G1 hl0 h1 (by omega) (h3.base (Dm.same s0)) h4 h5 ?_ L1 k1⟩;have:r.toNat * ddz e<=2 * ddz e:=qP _ i2;show 2 * ds.size + 1<=1 + 6 * ddz e;omega
 ·have c:=of_decide_eq_false c;have d0:d=0:=by omega
  subst d0;refine n9 ?_;dsimp only;refine fY ⟨_,rfl,k l0 [] .nil _ hl0 ag (by show 0 < 1000; decide) yc trivial (bH _) (by show 1<=1; decide) (L.same s0) (Kp.same s0)⟩
theorem Kc (D:Df K mg "_law_live_deeds" hV pLs f fd) (DE:Df K mg "_law_live_deed" gP pLd fE fdE) (DSm:Df K mg "_law_small" jm pSm fSm fdSm) (DT:Df K mg "_law_take" eO pT fT fdT) (B:Bl mg):∀ n:Nat,cm P w K mg base CX0 (3 + 2 * n) f fd pLs (Mf bs qs sgs n)
 | 0=>⟨fun vs H Q E h=>by
   obtain ⟨p,lt,lb,lq,ls,lf,m,d,_,h,_⟩:=h;omega,fun A outer s H args us vs Q E _ _ _ _ h=>by
   obtain ⟨p,lt,lb,lq,ls,lf,m,d,_,h,_⟩:=h;omega⟩
 | n + 1=>Jf (kk:=3 + 2 * n + 1) (by omega) D DE (B1 (by omega) DE D (Kc D DE DSm DT B n) DSm DT B) DT B
end
def HsO (bs qs:List Str) (H H':Hp) (v:V) (q:Str×Ds):Prop:=∃ t l xs,v=.ref t/\H' t=some (.tup [.str q.1,.ref l])/\H l=none/\H' l=some (.lst xs)/\xs.length < 1000/\OwS bs qs H H' q.2 xs
theorem HsO.keepI {bs qs:List Str} {H H' H1:Hp} {v:V} {q:Str×Ds} (k:d7 H' H1) (h:HsO bs qs H H' v q):HsO bs qs H H1 v q:=by
 obtain ⟨t,l,xs,e,h1,h2,h3,h4,h5⟩:=h;exact ⟨t,l,xs,e,k _ _ h1 (kn _),h2,k _ _ h3 h5.now.ni,h4,h5.keepI k⟩
theorem HsO.old {bs qs:List Str} {H H':Hp} {v:V} {q:Str×Ds} {a:aa} {o:HO} (h:HsO bs qs H H' v q) (ol:H a≠none) (nt:∀ xs,H' a≠some (.tup xs)):HsO bs qs H (upd H' a o) v q:=by
 obtain ⟨t,l,xs,e,h1,h2,h3,h4,h5⟩:=h;exact ⟨t,l,xs,e,bz h1 (fun z=>nt _ (by rw [<- z]; exact h1)),h2,bz h3 (fun z=>ol (by rw [<- z]; exact h2)),h4,h5.old ol nt⟩
theorem HsO.base {bs qs:List Str} {H H0 H':Hp} {v:V} {q:Str×Ds} (h:HsO bs qs H H' v q) (s:Dm H0 H):HsO bs qs H0 H' v q:=by
 obtain ⟨t,l,xs,e,h1,h2,h3,h4,h5⟩:=h;exact ⟨t,l,xs,e,h1,s l h2,h3,h4,h5.base s⟩
structure Mch (m:Int) (H H':Hp) (t:aa) (nm:Str) (bs qs:List Str) (ds:List Int) (hs:List (Str×Ds)) (ps:List (Str×Int)):Prop where
 ex:∃ (bl ql dl hl:aa) (vb hv:List V),H' t=some (.tup [.str nm,.ref bl,.ref ql,.ref dl,.ref hl])/\H' bl=some (.lst vb)/\gy H' ps vb/\H' ql=some (.lst (qs.map V.str))/\H' dl=some (.lst (ds.map V.int))/\H' hl=some (.lst hv)/\aI (HsO bs qs H H') hv hs/\H bl=none/\H ql=none/\H dl=none/\H hl=none
 kb:ps.map (·.1)=bs
 nb:bs.Nodup
 nq:qs.Nodup
 lb:bs.length<=9
 lq:qs.length<=9
 ld:ds.length<=100
 lh:hs.length<=9
 wb:∀ q∈ps,Wo q.2
 hk:∀ q∈hs,q.2.toOk m/\q.2.deep<=4/\q.2.size<=3 * ddz 4
def MIn (m:Int) (H H':Hp) (v:V) (M:MD):Prop:=∃ t,v=.ref t/\Mch m H H' t M.nm M.bs M.qs M.ds M.hs M.ps
theorem Mch.but {m:Int} {H H' H1:Hp} {t p:aa} {nm:Str} {bs qs:List Str} {ds:List Int} {hs:List (Str×Ds)} {ps:List (Str×Int)} (pu0:dS H p) (pu:dS H' p) (b:But p H' H1) (h:Mch m H H' t nm bs qs ds hs ps):Mch m H H1 t nm bs qs ds hs ps:=by
 have k:=d7.but pu b;have np:∀ {a:aa},H a=none->a≠p:=fun {a} e z=>by
  obtain ⟨x,y,q⟩:=pu0;rw [z,q] at e
  cases e
 obtain ⟨⟨bl,ql,dl,hl,vb,hv,h1,h2,h3,h4,h5,h6,h7,f1,f2,f3,f4⟩,kb,nb,nq,lb,lq,ld,lh,wb,hk⟩:=h;exact ⟨⟨bl,ql,dl,hl,vb,hv,k _ _ h1 (kn _),b _ _ h2 (np f1),gy.tups (fun a xs e=>k _ _ e (kn xs)) h3,b _ _ h4 (np f2),b _ _ h5 (np f3),b _ _ h6 (np f4),Paired.mono (fun v q z=>HsO.keepI k z) h7,f1,f2,f3,f4⟩,kb,nb,nq,lb,lq,ld,lh,wb,hk⟩
theorem Mch.same {m:Int} {H H' H1:Hp} {t:aa} {nm:Str} {bs qs:List Str} {ds:List Int} {hs:List (Str×Ds)} {ps:List (Str×Int)} (b:bj H' H1) (h:Mch m H H' t nm bs qs ds hs ps):Mch m H H1 t nm bs qs ds hs ps:=by
 obtain ⟨⟨bl,ql,dl,hl,vb,hv,h1,h2,h3,h4,h5,h6,h7,f1,f2,f3,f4⟩,kb,nb,nq,lb,lq,ld,lh,wb,hk⟩:=h;exact ⟨⟨bl,ql,dl,hl,vb,hv,b _ _ h1,b _ _ h2,gy.same b h3,b _ _ h4,b _ _ h5,b _ _ h6,Paired.mono (fun v q z=>HsO.keepI (d7.same b) z) h7,f1,f2,f3,f4⟩,kb,nb,nq,lb,lq,ld,lh,wb,hk⟩
theorem Mch.base {m:Int} {H0 H H':Hp} {t:aa} {nm:Str} {bs qs:List Str} {ds:List Int} {hs:List (Str×Ds)} {ps:List (Str×Int)} (s:Dm H0 H) (h:Mch m H H' t nm bs qs ds hs ps):Mch m H0 H' t nm bs qs ds hs ps:=by
 obtain ⟨⟨bl,ql,dl,hl,vb,hv,h1,h2,h3,h4,h5,h6,h7,f1,f2,f3,f4⟩,kb,nb,nq,lb,lq,ld,lh,wb,hk⟩:=h;exact ⟨⟨bl,ql,dl,hl,vb,hv,h1,h2,h3,h4,h5,h6,Paired.mono (fun v q z=>HsO.base z s) h7,s _ f1,s _ f2,s _ f3,s _ f4⟩,kb,nb,nq,lb,lq,ld,lh,wb,hk⟩
theorem But.dm {p:aa} {H G:Hp} (b:But p H G) (pu:dS G p):Dm H G:=fun a n=>by
 cases e:H a with
 | none=>rfl
 | some o =>
  by_cases c:a=p
  ·obtain ⟨x,y,q⟩:=pu;rw [c,q] at n
   cases n
  ·rw [b a o e c] at n
   cases n
theorem rR {H:Hp}:∀ {ps:List (Str×Int)} {vs:List V},gy H ps vs->aI (fun v (x:Str)=>∃ a n,v=.ref a/\H a=some (.tup [.str x,n])) vs (ps.map (·.1))
 | [],_,h=>by
  cases h;exact .nil
 | p :: ps,_,h=>by
  cases h with
  | cons a b =>
   obtain ⟨t,e,h⟩:=a;exact .cons ⟨t,_,e,h⟩ (rR (ps:=ps) b)
theorem oa {α:Type} {R:V->α->Prop}:∀ {xs:List V} {as:List α},aI R xs as->∀ x∈xs,∃ a∈as,R x a
 | _,_,.nil,_,h=>by cases h
 | _,_,.cons a b,x,h=>by
  rcases ay.mp h with z | z
  ·exact ⟨_,aD,by rw [z]; exact a⟩
  ·obtain ⟨c,hc,r⟩:=oa b x z;exact ⟨c,ah _ hc,r⟩
theorem MIn.moI {m:Int} {H H':Hp} {v:V} {M:MD} (h:MIn m H H' v M):MoI m H' v M:=by
 obtain ⟨t,rfl,⟨bl,ql,dl,hl,vb,hv,h1,h2,h3,h4,h5,h6,h7,f1,f2,f3,f4⟩,kb,nb,nq,lb,lq,ld,lh,wb,hk⟩:=h;refine ⟨⟨t,bl,ql,dl,hl,_,vb,hv,rfl,h1,h2,by rw [<- kb]; exact rR h3,h4,h5,h6,Paired.mono (fun v q z=>?_) h7⟩,⟨t,bl,ql,_,_,_,vb,rfl,h1,h2,h3,h4⟩,kb,nb,nq,lb,lq,ld,lh,wb,hk⟩;obtain ⟨u,l,xs,e,g1,g2,g3,g4,g5⟩:=z;exact ⟨u,.ref l,e,g1,l,xs,rfl,g3,g4,g5.now⟩
theorem MIn.tree {m:Int} {H H':Hp} {v:V} {M:MD} (h:MIn m H H' v M):Tree H' 28 v:=by
 obtain ⟨t,rfl,⟨bl,ql,dl,hl,vb,hv,h1,h2,h3,h4,h5,h6,h7,f1,f2,f3,f4⟩,kb,nb,nq,lb,lq,ld,lh,wb,hk⟩:=h;have lps:M.ps.length<=9:=by
  have:=congrArg gD kb;rw [ai] at this;omega
 refine Tree.atup h1 (by show 5 < 1000; decide) fun y hy=>?_;simp only [ay,aY,or_false] at hy
 rcases hy with rfl | rfl | rfl | rfl | rfl
 ·exact Tree.scal (by exact trivial) _
 ·exact Tree.alst h2 (by rw [<- h3.length]; omega) fun z hz=>h3.tree (n:=25) z hz
 ·refine Tree.alst h4 (by rw [ai]; omega) fun z hz=>?_;obtain ⟨x,_,rfl⟩:=cB.mp hz;exact Tree.scal (by exact trivial) _
 ·refine Tree.alst h5 (by rw [ai]; omega) fun z hz=>?_;obtain ⟨x,_,rfl⟩:=cB.mp hz;exact Tree.scal (by exact trivial) _
 ·refine Tree.alst h6 (by rw [aX h7]; omega) fun z hz=>?_;obtain ⟨q,hq,u,l,xs,rfl,g1,g2,g3,g4,g5⟩:=oa h7 z hz;refine Tree.atup g1 (by show 2 < 1000; decide) fun y hy=>?_;simp only [ay,aY,or_false] at hy
  rcases hy with rfl | rfl
  ·exact Tree.scal (by exact trivial) _
  ·exact Tree.alst g3 g4 fun z hz=>eZ.tree q.2 xs 24 g5.now (by have:=(hk q hq).2.1; omega) z hz
theorem AE.alike {H H':Hp} {v v':V} {M:MD} (h:AE H v M) (al:Alike H H' 28 v v'):AE H' v' M:=by
 obtain ⟨t,bl,ql,n0,x3,x4,vb,rfl,h1,h2,h3,h4⟩:=h;obtain ⟨t',ys2,rfl,al2,p3⟩:=sY h1 al;obtain ⟨z0,yr,rfl,a0,p3⟩:=dI p3;obtain ⟨z1,yr,rfl,a1,p3⟩:=dI p3;obtain ⟨z2,yr,rfl,a2,p3⟩:=dI p3;obtain ⟨z3,yr,rfl,a3,p3⟩:=dI p3;obtain ⟨z4,yr,rfl,a4,p3⟩:=dI p3;obtain rfl:=mY p3;obtain ⟨b',vb',rfl,c1,d1⟩:=p4 h2 a1;obtain ⟨q',vq,rfl,c2,d2⟩:=p4 h4 a2;rw [iR d2 (by intro x hx; obtain ⟨z,_,rfl⟩:=cB.mp hx; exact trivial)] at c2;exact ⟨t',b',q',z0,z3,z4,vb',rfl,al2,c1,h3.alike d1,c2⟩
theorem Jg {m:Int} {H0 H:Hp} {ml:aa} {xs:List V} {Ms:List MD} (h:H ml=some (.lst xs)) (p:aI (MIn m H0 H) xs Ms) (l:Ms.length < 1000):Tree H 29 (.ref ml):=
 Tree.alst h (by rw [aX p]; exact l) fun x hx=>by
  obtain ⟨M,_,z⟩:=oa p x hx;exact z.tree
theorem Jh {m:Int} {H0 H H2:Hp} {ml:aa} {xs:List V} {Ms:List MD} {v':V} (h:H ml=some (.lst xs)) (p:aI (MIn m H0 H) xs Ms) (al:Alike H H2 29 (.ref ml) v'):∃ ml',v'=.ref ml'/\C6 m H2 ml' Ms:=by
 obtain ⟨ml',ys,rfl,h1,p1⟩:=p4 h al;refine ⟨ml',rfl,ys,h1,tu (R:=MIn m H0 H) (S:=Alike H H2 28) (T:=Tree H 28) (fun v M v' a b c=>?_) p p1 fun x hx=>?_⟩
 ·have z:=a.moI;exact ⟨z.ma.alike c b,z.fs.alike b,z.kb,z.nb,z.nq,z.lb,z.lq,z.ld,z.lh,z.wb,z.hk⟩
 ·obtain ⟨M,_,z⟩:=oa p x hx;exact z.tree
theorem AM {K:ae} {n:Nat} {ti:TE} {g:TG} {tc:L2.TT} {te:TE} {σ:St} {H:Hp} {Q:VK} (PP:aa->List V->Hp->Prop) (hi:∀ R:VK,(∀ a xs H1,PP a xs H1->R (.ref a) H1)->ti σ H R) (hx:∀ a xs H1,PP a xs H1->SqL K H1 a xs) (Pv:aa->List V->Hp->Nat->List V->Hp->Prop) (h0:∀ a xs H1,PP a xs H1->Pv a xs H1 0 [] H1)
  (hl:∀ a xs H1,PP a xs H1->∀ i ys G,i<=xs.length->Pv a xs H1 i ys G->SqL K G a xs/\ys.length < au)
  (hs:∀ a xs H1,PP a xs H1->∀ i x ys G,xs[i]?=some x->Pv a xs H1 i ys G->g x (cH n none++σ) G fun σ2 H2=>σ2.drop n=σ/\tc σ2 H2 fun b H3=>if b=true then te σ2 H3 fun y H4=>Pv a xs H1 (i + 1) (ys++[y]) H4 else Pv a xs H1 (i + 1) ys H3)
  (hd:∀ a xs H1,PP a xs H1->∀ ys G,Pv a xs H1 xs.length ys G->∀ p,G p=none->Q (.ref p) (upd G p (.lst ys))):tT n (Eb K ti) g tc te σ H Q:=
 hi _ fun a xs H1 p=>⟨a,rfl,⟨xs,hx a xs H1 p⟩,sS (Pv a xs H1) (h0 a xs H1 p) (hl a xs H1 p) (hs a xs H1 p) (hd a xs H1 p)⟩
theorem len3 {α:Type} {l:List α} (h:l.length=3):∃ a b c,l=[a,b,c]:=by
 match l,h with
 | [a,b,c],_=>exact ⟨a,b,c,rfl⟩
theorem len4 {α:Type} {l:List α} (h:l.length=4):∃ a b c d,l=[a,b,c,d]:=by
 match l,h with
 | [a,b,c,d],_=>exact ⟨a,b,c,d,rfl⟩
theorem Gp {t:TE} {r:TA} {σ:St} {H:Hp} {Q:VK} (h:t σ H fun x H1=>r σ H1 fun xs H2=>(x :: xs).length<=au/\∀ p,H2 p=none->Q (.ref p) (upd H2 p (.lst (x :: xs)))):tLst (mC t r) σ H Q:=h
section
variable {P:aL} {w:bN} {K:ae} {mg:Str->Option af} {base:cF} {f fT fN fE:aa} {fd fdT fdN fdE:cw} {sgs:List Str}
seal PS PSs PE PA PT PW PI PG PGs PC
abbrev nLm:List Str:=["_law_purse_here","_law_name","_law_signs","_law_many","_law_names_here","_law_boxes","_law_queues","_law_draws","_law_things","_law_hears","_law_sign","_law_left","_law_deeds","_law_k"]
abbrev pLm:List Str:=["_law_purse_here","_law_name","_law_signs","_law_many"]
theorem vG:cv nLm pLm (aQ eP):={}
abbrev nnLm:List Str:=["_law_purse_here","_law_name","_law_signs","_law_many","_law_names_here","_law_boxes","_law_queues","_law_draws","_law_things","_law_hears","_law_sign","_law_left","_law_deeds","-"]
theorem ndLm:((["_law_box"]:List Str)++nLm).Nodup:=by decide +kernel
theorem ndLm2:((["_law_k"]:List Str)++nnLm).Nodup:=by decide +kernel
theorem Kd:((["_law_box","_law_worth_here"]:List Str)++nLm).Nodup:=by decide +kernel
inductive Ke (sgs:List Str) (vs:List V) (H:Hp) (Q:VK) (_e:XK):Prop where
 | mk (p ls:aa) (nm:Str) (m:Int) (_:vs=[.ref p,.str nm,.ref ls,.int m]) (_:dS H p) (_:H ls=some (.lst (sgs.map V.str))) (_:sgs.length=3) (_:0 < m) (_:m < 1000) (_:∀ (t:aa) (H':Hp) (bs qs:List Str) (ds:List Int) (hs:List (Str×Ds)) (ps:List (Str×Int)),Mch m H H' t nm bs qs ds hs ps->dS H' p->But p H H'->Q (.ref t) H'):Ke sgs vs H Q _e
def Mg (sgs:List Str):Sp:=fun vs H Q _e=>Ke sgs vs H Q _e
theorem ok_lm (D:Df K mg "_law_live_machine" eP pLm f fd) (DN:Df K mg "_law_names" jj pN fN fdN) (DE:Df K mg "_law_live_deed" gP pLd fE fdE) (GE0:∀ bs qs,cm P w K mg base CX0 10 fE fdE pLd (Je bs qs sgs 3)) (DT:Df K mg "_law_take" eO pT fT fdT) (B:Bl mg):cm P w K mg base CX0 11 f fd pLm (Mg sgs):=by
 have GT:cm P w K mg base CX0 1 fT fdT pT lA:=jY DT B;have GN:cm P w K mg base CX0 2 fN fdN pN ya:=zt DN DT B;have GE:=cm.some (ι:=List Str×List Str) (sp:=fun q=>Je q.1 q.2 sgs 3) (F:=fun q=>GE0 q.1 q.2);refine D.F.ok vG (fun vs H Q E h=>?_) (fun cdv A outer s H vs Q E hr h=>?_)
 ·obtain ⟨p,ls,nm,m,rfl,_⟩:=h;rfl
 obtain ⟨p,ls,nm,m,rfl,pu,hls,l3,m0,m1,k⟩:=h;have r1:d5 1 _:=hr.mono (by decide);have r2:d5 2 _:=hr.mono (by decide);have r10:d5 10 _:=hr;refine ⟨_,ak (aZ (i:=4) vG.nd rfl (Or.inl rfl) (aO GN r2 (by rfl) DN.m DN.F.kp DN.b .nil bY (aS (pv 0) (dR aw ao))))
  (ak (pZ (i:=5) ["_law_box"] (iG.open (NN:=nLm) (N:=nLm) (sc:=aQ eP) rfl rfl (by decide +kernel) rfl (by decide +kernel) (by decide +kernel) rfl (by decide +kernel)) rfl vG.nd rfl (Or.inl rfl) (i0 (eI iu (pv 4) fX (fg (cC ff aw (aO GT r1 (by rfl) DT.m DT.F.kp DT.b .nil bY (aS (pv 0) (dR aw ao))))))) (fun _ _ _ _=>cP (i:=0) ndLm rfl (Or.inl rfl)) (fun _ _ _ _=>kD) (fun _ _ _ _=>cR (aS (pv 0) (jL (cC kN (aO GT r1 (by rfl) DT.m DT.F.kp DT.b .nil bY (aS (pv 1) (dR aw ao))) aw) ao))))
  (ak (aZ (i:=6) vG.nd rfl (Or.inl rfl) (eI iu (pv 4) (fg aw) (fg (cC ff aw (aO GT r1 (by rfl) DT.m DT.F.kp DT.b .nil bY (aS (pv 0) (dR aw ao)))))))
  (ak (pZ (i:=7) ["_law_k"] (iG.open (NN:=nnLm) (N:=nLm) (sc:=aQ eP) rfl rfl (by decide +kernel) rfl (by decide +kernel) (by decide +kernel) rfl (by decide +kernel)) rfl vG.nd rfl (Or.inl rfl) (iL (by rfl) B.range (jK (aO GT r1 (by rfl) DT.m DT.F.kp DT.b .nil bY (aS (pv 0) (dR aw ao))) ao)) (fun _ _ _ _=>cP (i:=0) ndLm2 rfl (Or.inl rfl)) (fun _ _ _ _=>kD) (fun _ _ _ _=>aO GT r1 (by rfl) DT.m DT.F.kp DT.b .nil bY (aS (pv 1) (dR aw ao))))
  (ak (aZ (i:=8) vG.nd rfl (Or.inl rfl) (dh (av (uy ["_law_box","_law_worth_here"] (iG.open (NN:=nLm) (N:=nLm) (sc:=aQ eP) rfl rfl (by decide +kernel) rfl (by decide +kernel) (by decide +kernel) rfl (by decide +kernel)) rfl (i0 (pv 5)) (fun _ _ _ _=>BG (n:=2) K (by rfl) rfl (eF (cP (i:=0) Kd rfl (Or.inl rfl)) (eF (cP (i:=1) Kd rfl (Or.inl rfl)) nj))) (fun _ _ _ _=>kD) (fun _ _ _ _=>pv 0)) (aS (pv 6) (aS (pv 2) (aS (pv 3) ao))))))
  (ak (aZ (i:=9) vG.nd rfl (Or.inl rfl) (dh ao))
  (ak (jy dy rfl (i0 (eI iu (pv 2) (fg (aO GT r1 (by rfl) DT.m DT.F.kp DT.b .nil bY (aS (pv 0) (dR aw ao)))) fX)) (cP (i:=10) vG.nd rfl (Or.inl rfl)) (ak (aZ (i:=11) vG.nd rfl (Or.inl rfl) (dh (dR aw ao)))
  (ak (aZ (i:=12) vG.nd rfl (Or.inl rfl) (dh ao))
  (ak (jy dy rfl (iL (by rfl) B.range (jL (cC ff aw (aO GT r1 (by rfl) DT.m DT.F.kp DT.b .nil bY (aS (pv 0) (dR aw ao)))) ao)) (cP (i:=13) vG.nd rfl (Or.inl rfl)) (aF (cS (bM wj (bT cV (pv 11) aw (fun _ _=>rfl)) aw (cj _)) (aF (eK (kQ cy cJ cK gN (pv 12) (jK (aO GE r10 (by rfl) DE.m DE.F.kp DE.b .nil bY (aS (pv 0) (aS (pv 8) (aS (pv 11) (dR aw ao))))) ao)))) cq)))
  (aF (eK (kQ cy cJ cK gN (pv 9) (jT (cR (aS (pv 10) (aS (pv 12) ao))) ao) (hs:=zp))))))))
  (aF (bQ (cR (aS (pv 1) (aS (pv 5) (aS (pv 6) (aS (pv 7) (aS (pv 9) ao)))))))))))))),?_⟩
 have big:=fq;have nls:=kE pu hls
 -- the names
 refine bR (cI ?_);refine ⟨_,rfl,p,4,rfl,pu,by decide,by decide,fun ln ss G1 hln hlnG lss nd pu1 b1=>?_⟩;refine aU ?_;dsimp only;obtain ⟨s0,s1,s2,s3,rfl⟩:=len4 (l:=ss) (by omega);have nln:=kE pu1 hlnG;have hls1:=b1 _ _ hls nls;have dm1:Dm H G1:=b1.dm pu1
 -- the boxes
 refine bR (cI ?_);refine AM (fun a xs G=>∃ bs:List Str,(bs=[s0]\/bs=[s0,s1])/\xs=bs.map V.str/\G a=some (.lst xs)/\a≠p/\dS G p/\But p G1 G) (fun R hR=>⟨_,rfl,_,rfl,p,2,rfl,pu1,by decide,by decide,fun r G2 r0 r1' pu2 b2=>⟨_,_,rfl,rfl,_,rfl,ln,_,rfl,SqL.of (b2 _ _ hlnG nln),fun a ha=>?_⟩⟩) (fun a xs G ⟨bs,_,_,h,_⟩=>SqL.of h)
  (fun a xs G0 i ys G=>∃ (bs:List Str) (ps:List (Str×Int)),(bs=[s0]\/bs=[s0,s1])/\xs=bs.map V.str/\G a=some (.lst xs)/\a≠p/\dS G p/\But p G1 G/\gy G ps ys/\ps.map (·.1)=bs.take i/\(∀ q∈ps,Wo q.2)) ?_ ?_ ?_ ?_
 ·have nap:a≠p:=jg pu2 ha;have sa:=aA ha (.lst (eT ([s0,s1,s2,s3].map V.str) none (some (1 + r))));have cs:r=0\/r=1:=by omega
  rcases cs with rfl | rfl
  ·exact hR a _ _ ⟨[s0],.inl rfl,rfl,ag,nap,pu2.same sa,b2.same sa⟩
  ·exact hR a _ _ ⟨[s0,s1],.inr rfl,rfl,ag,nap,pu2.same sa,b2.same sa⟩
 ·rintro a xs G ⟨bs,c,e,h1,h2,h3,h4⟩;exact ⟨bs,[],c,e,h1,h2,h3,h4,.nil,rfl,(fun q hq=>by cases hq)⟩
 ·rintro a xs G0 _ i ys G hi ⟨bs,ps,c,rfl,h1,h2,h3,h4,h5,h6,h7⟩;have l5:=h5.length;have l6:=congrArg gD h6;rw [ai,aT] at l6;have lb:bs.length<=2:=by
   rcases c with rfl | rfl
   ·exact (by decide:1<=2)
   ·exact aE 2
  exact ⟨SqL.of h1,by omega⟩
 ·rintro a xs G0 _ i x ys G hi ⟨bs,ps,c,rfl,h1,h2,h3,h4,h5,h6,h7⟩;rw [bS] at hi;obtain ⟨o,ho,rfl⟩:∃ o,bs[i]?=some o/\x=.str o:=by
   cases z:bs[i]? with
   | none =>
    rw [z] at hi
    cases hi
   | some o =>
    rw [z] at hi
    cases hi;exact ⟨o,rfl,rfl⟩
  refine ⟨rfl,?_⟩;unfold vR;refine iF ?_;refine ⟨_,rfl,_,rfl,p,9,rfl,h3,by decide,by decide,fun r G2 r0 r1' pu2 b2=>⟨_,_,rfl,rfl,lt2,fun t ht=>?_⟩⟩;have st_:=aA ht (.tup [.str o,.int (r - 2)]);refine ⟨bs,ps++[(o,r - 2)],c,rfl,st_ _ _ (b2 _ _ h1 h2),h2,pu2.same st_,(h4.trans b2).same st_,?_,?_,fun q hq=>?_⟩
  ·unfold gy;rw [bV];exact eS (gy.tups (fun t xs e=>st_ _ _ (d7.but h3 b2 _ _ e (kn xs))) h5) ⟨t,rfl,ag⟩
  ·rw [bV,h6,gm,ho];rfl
  ·rcases bU.mp hq with z | z
   ·exact h7 q z
   ·rw [aH.mp z];exact iS (by show -1000000<=r - 2/\r - 2<=1000000; omega)
 rintro a xs G0 _ vb G ⟨bs,ps,cb,rfl,h1,h2,h3,h4,hbx,kb,wb⟩ bl hbl;rw [ai,dQ] at kb;have sbl:=aA hbl (.lst vb);refine aU ?_;dsimp only;have lbs:0 < bs.length/\bs.length<=2:=by
  rcases cb with rfl | rfl
  ·exact ⟨fJ _,by show 1<=2; decide⟩
  ·exact ⟨fJ _,aE 2⟩
 have ndb:bs.Nodup:=by
  have nd2:[s0,s1].Nodup:=nd.sublist (by simp)
  rcases cb with rfl | rfl
  ·exact nd2.sublist (by simp)
  ·exact nd2
 have Hbl:H bl=none:=dm1 bl (h4.dm h3 bl hbl);have nbl:bl≠p:=jg h3 hbl;have puA:=h3.same sbl;have bA:But p H (upd G bl (.lst vb)):=(b1.trans h4).same sbl;have hlnA:=sbl _ _ (h4 _ _ hlnG nln);have hblA:upd G bl (.lst vb) bl=some (.lst vb):=ag;have hbxA:=gy.same sbl hbx;revert puA bA hlnA hblA hbxA;clear sbl hbl h1 h2 h3 h4 hbx;generalize upd G bl (.lst vb)=GA;intro puA bA hlnA hblA hbxA
 -- the queues
 refine bR (cI ?_);refine ⟨_,rfl,_,rfl,_,rfl,p,2,rfl,puA,by decide,by decide,fun r G2 r0 r1' pu2 b2=>⟨_,_,rfl,rfl,_,rfl,ln,_,rfl,SqL.of (b2 _ _ hlnA nln),fun ql hql=>?_⟩⟩;obtain ⟨qs,ndq,lqs,eq⟩:∃ qs:List Str,qs.Nodup/\(0 < qs.length/\qs.length<=2)/\eT ([s0,s1,s2,s3].map V.str) (some 2) (some (3 + r))=qs.map V.str:=by
  have nd2:[s2,s3].Nodup:=nd.sublist (by simp);have cs:r=0\/r=1:=by omega
  rcases cs with rfl | rfl
  ·exact ⟨[s2],nd2.sublist (by simp),⟨fJ _,by show 1<=2; decide⟩,rfl⟩
  ·exact ⟨[s2,s3],nd2,⟨fJ _,aE 2⟩,rfl⟩
 rw [eq];have sql:=aA hql (.lst (qs.map V.str));refine aU ?_;dsimp only;have Hql:H ql=none:=bA.dm puA ql (b2.dm pu2 ql hql);have nql:ql≠p:=jg pu2 hql;have puB:=pu2.same sql;have bB:But p H (upd G2 ql (.lst (qs.map V.str))):=(bA.trans b2).same sql;have hblB:=sql _ _ (b2 _ _ hblA nbl);have hbxB:=gy.tups (fun t xs e=>sql _ _ (d7.but puA b2 _ _ e (kn xs))) hbxA;have hqlB:upd G2 ql (.lst (qs.map V.str)) ql=some (.lst (qs.map V.str)):=ag;revert puB bB hblB hbxB hqlB;clear sql hql eq;generalize upd G2 ql (.lst (qs.map V.str))=GB;intro puB bB hblB hbxB hqlB
 -- the draws
 refine bR (cI ?_);refine xc (fun n G=>n < 4/\dS G p/\But p GB G) (fun R hR=>⟨_,rfl,p,4,rfl,puB,by decide,by decide,fun x G x0 x1 pu b=>by
   obtain ⟨n,rfl⟩:∃ n:Nat,x=(n:Int):=⟨x.toNat,by omega⟩;exact hR n G ⟨by omega,pu,b⟩⟩) (fun n G h=>by have:=h.1; omega) (fun n _ i ys G=>∃ ds:List Int,ys=ds.map V.int/\ds.length=i/\dS G p/\But p GB G) (fun n G h=>⟨[],rfl,rfl,h.2.1,h.2.2⟩) ?_ ?_ ?_
 ·rintro n G0 h i ys G hi ⟨ds,rfl,h1,_⟩;rw [ai];have:=h.1;omega
 ·rintro n G0 h i ys G hi ⟨ds,rfl,h1,pu,b⟩;refine ⟨rfl,?_⟩;unfold vR;refine iF ?_;refine ⟨_,rfl,p,99,rfl,pu,by decide,by decide,fun x Ga x0 x1 pua ba=>?_⟩;exact ⟨ds++[x],by rw [bV]; rfl,by rw [ax,h1]; rfl,pua,b.trans ba⟩
 rintro n G0 hn ys G ⟨ds,rfl,lds,puG,bG⟩ dl hdl;have ld:ds.length<=100:=by have:=hn.1; omega
 have sdl:=aA hdl (.lst (ds.map V.int));refine aU ?_;dsimp only;have Hdl:H dl=none:=bB.dm puB dl (bG.dm puG dl hdl);have ndl:dl≠p:=jg puG hdl;have puC:=puG.same sdl;have bC:But p H (upd G dl (.lst (ds.map V.int))):=(bB.trans bG).same sdl;have hblC:=sdl _ _ (bG _ _ hblB nbl);have hbxC:=gy.tups (fun t xs e=>sdl _ _ (d7.but puB bG _ _ e (kn xs))) hbxB;have hqlC:=sdl _ _ (bG _ _ hqlB nql);have hdlC:upd G dl (.lst (ds.map V.int)) dl=some (.lst (ds.map V.int)):=ag;revert puC bC hblC hbxC hqlC hdlC;clear sdl hdl bG puG hn G0;generalize upd G dl (.lst (ds.map V.int))=GC;intro puC bC hblC hbxC hqlC hdlC
 -- the things
 refine bR (cI ?_);refine Gp (qO (K:=K) (a:=bl) (xs:=vb) (fun R h=>⟨_,rfl,h⟩) (SqL.of hblC) (fun i ys G=>G=GC/\ys=(bs.take i).map V.str) ⟨rfl,rfl⟩ ?_ ?_ ?_)
 ·rintro i ys G hi ⟨rfl,rfl⟩;rw [ai,aT];exact ⟨SqL.of hblC,by omega⟩
 ·rintro i x ys G hi ⟨rfl,rfl⟩;obtain ⟨kv,hkv,t,rfl,ht⟩:=jn hbxC hi;obtain ⟨q,hq,rfl⟩:∃ q,ps[i]?=some q/\kv=((Sum.inr q.1:Key),V.int q.2):=by
   rw [bS] at hkv
   cases z:ps[i]? with
   | none =>
    rw [z] at hkv
    cases hkv
   | some q =>
    rw [z] at hkv
    cases hkv;exact ⟨q,rfl,rfl⟩
  refine ⟨t,_,rfl,SqT.of ht,rfl,_,_,rfl,_,_,rfl,rfl,?_⟩;refine ⟨rfl,?_⟩;unfold vR;refine iF ?_;refine ⟨_,rfl,rfl,?_⟩;have hb:bs[i]?=some q.1:=by
   rw [<- kb,bS,hq];rfl
  rw [gm,hb,bV];rfl
 rintro ys G ⟨rfl,rfl⟩ lb hlb;have lvb:vb.length=bs.length:=by
  rw [<- kb,ai,hbxC.length]
 rw [lvb,dQ] at *;have slb:=aA hlb (.lst (bs.map V.str));refine ⟨_,rfl,_,rfl,_,rfl,by show 4<=au; omega,fun lt hlt=>?_⟩;have slt:=aA hlt (.lst [.ref lb,.ref ql,.ref ls,.int m]);refine aU ?_;dsimp only
 -- what it hears
 refine bR (cI ?_);refine ⟨bH _,fun hl hhl=>?_⟩;have shl:=aA hhl (.lst []);refine aU ?_;dsimp only;have sD:=(slb.trans slt).trans shl;have Hhl:H hl=none:=bC.dm puC hl (none_of (slb.trans slt) hhl);have hlsD:=sD _ _ (bC _ _ hls nls);have TD:Th (upd (upd (upd G lb (.lst (bs.map V.str))) lt (.lst [.ref lb,.ref ql,.ref ls,.int m])) hl (.lst [])) lt lb ql ls m bs qs sgs:=⟨shl _ _ ag,shl _ _ (slt _ _ ag),sD _ _ hqlC,hlsD,⟨lbs.1,by omega⟩,⟨lqs.1,by omega⟩,by omega,⟨m0,m1⟩⟩;have hhlD:upd (upd (upd G lb (.lst (bs.map V.str))) lt (.lst [.ref lb,.ref ql,.ref ls,.int m])) hl (.lst []) hl=some (.lst []):=ag;have puD:=puC.same sD;have bD:=bC.same sD;have hblD:=sD _ _ hblC;have hbxD:=gy.same sD hbxC;have hdlD:=sD _ _ hdlC;have nhp:hl≠p:=jg (puC.same (slb.trans slt)) hhl;have nT:lt≠hl/\lb≠hl/\ql≠hl/\ls≠hl/\bl≠hl/\dl≠hl:=⟨aG ag hhl,aG (slt _ _ ag) hhl,aG ((slb.trans slt) _ _ hqlC) hhl,aG ((slb.trans slt) _ _ (bC _ _ hls nls)) hhl,aG ((slb.trans slt) _ _ hblC) hhl,aG ((slb.trans slt) _ _ hdlC) hhl⟩;have nP:lt≠p/\lb≠p:=⟨jg (puC.same slb) hlt,jg puC hlb⟩;revert TD hhlD puD bD hblD hbxD hdlD;clear sD shl slt slb hlt hlb;generalize upd (upd (upd G lb (.lst (bs.map V.str))) lt (.lst [.ref lb,.ref ql,.ref ls,.int m])) hl (.lst [])=GD;intro TD hhlD puD bD hblD hbxD hdlD;obtain ⟨g0,g1,g2,rfl⟩:=len3 l3;refine bR ?_;refine ⟨_,rfl,_,rfl,p,2,rfl,puD,by decide,by decide,fun r GE' r0 r1' puE bE=>⟨_,rfl,ls,_,rfl,SqL.of (bE _ _ TD.hs nls),fun sl hsl=>?_⟩⟩;obtain ⟨zs,lz,eq⟩:∃ zs:List Str,zs.length<=3/\eT ([g0,g1,g2].map V.str) (some r) none=zs.map V.str:=by
  have cs:r=0\/r=1:=by omega
  rcases cs with rfl | rfl
  ·exact ⟨[g0,g1,g2],aE 3,rfl⟩
  ·exact ⟨[g1,g2],by show 2<=3; decide,rfl⟩
 rw [eq];have ssl:=aA hsl (.lst (zs.map V.str));have B0:=hhlD;have nB:GD hl≠none:=by
  rw [hhlD];intro z
  cases z
 have puF:=puE.same ssl;have kF:Kp [p,hl] GD (upd GE' sl (.lst (zs.map V.str))):=(Kp.but bE aD).trans (Kp.same ssl);have dmF:Dm GD (upd GE' sl (.lst (zs.map V.str))):=(bE.dm puE).trans (Dm.same ssl);have hhlF:upd GE' sl (.lst (zs.map V.str)) hl=some (.lst []):=ssl _ _ (bE _ _ hhlD nhp);have hslF:upd GE' sl (.lst (zs.map V.str)) sl=some (.lst (zs.map V.str)):=ag;have nsp:sl≠p:=jg puE hsl;have nsh:sl≠hl:=(aG (bE _ _ hhlD nhp) hsl).symm;revert puF kF dmF hhlF hslF;clear ssl hsl eq;generalize upd GE' sl (.lst (zs.map V.str))=GF;intro puF kF dmF hhlF hslF;refine ⟨sl,rfl,⟨_,SqL.of hslF⟩,kM (K:=K) (a:=sl) (xs:=zs.map V.str) (fun i σ G=>∃ (u10 u11 u12 u13:Option V) (hv:List V) (hs:List (Str×Ds)),σ=[some (.ref p),some (.str nm),some (.ref ls),some (.int m),some (.ref ln),some (.ref bl),some (.ref ql),some (.ref dl),some (.ref lt),some (.ref hl),u10,u11,u12,u13]/\G sl=some (.lst (zs.map V.str))/\G hl=some (.lst hv)/\aI (HsO bs qs GD G) hv hs/\hs.length=i/\(∀ q∈hs,q.2.toOk m/\q.2.deep<=4/\q.2.size<=3 * ddz 4)/\dS G p/\Kp [p,hl] GD G/\Dm GD G)
  ⟨_,_,_,_,[],[],rfl,hslF,hhlF,.nil,rfl,(fun q hq=>by cases hq),puF,kF,dmF⟩ ?_ ?_ ?_⟩
 ·rintro i σ G _ ⟨_,_,_,_,_,_,rfl,h,_⟩;exact SqL.of h
 ·rintro i x σ G hi ⟨u10,u11,u12,u13,hv,hs,rfl,hslG,hhlG,phs,lhs,okh,puG,kG,dmG⟩;rw [bS] at hi;obtain ⟨o,ho,rfl⟩:∃ o,zs[i]?=some o/\x=.str o:=by
   cases z:zs[i]? with
   | none =>
    rw [z] at hi
    cases hi
   | some o =>
    rw [z] at hi
    cases hi;exact ⟨o,rfl,rfl⟩
  have iz:i < zs.length:=(aC.mp ho).1;have nin:∀ {a:aa},a≠p->a≠hl->a∉[p,hl]:=fun n1 n2 z=>by
   simp only [ay,aY,or_false] at z;exact z.elim n1 n2
  have TG:Th G lt lb ql ls m bs qs [g0,g1,g2]:=⟨kG _ _ TD.ht (nin nP.1 nT.1),kG _ _ TD.hb (nin nP.2 nT.2.1),kG _ _ TD.hq (nin nql nT.2.2.1),kG _ _ TD.hs (nin nls nT.2.2.2.1),TD.lb,TD.lq,TD.ls,TD.m0⟩
  -- twenty are left, no deeds
  refine bR (cI ?_);refine ⟨Az,fun lf hlf=>?_⟩;have slf:=aA hlf (.lst [.int 20]);refine aU ?_;dsimp only;refine bR (cI ?_);refine ⟨bH _,fun l0 hl0=>?_⟩;have sl0:=aA hl0 (.lst []);refine aU ?_;dsimp only;have s2:=slf.trans sl0;have L2':Lf (upd (upd G lf (.lst [.int 20])) l0 (.lst [])) p lf:=⟨puG.same s2,20,sl0 _ _ ag⟩;have n0:l0∉[p,lf]:=fun z=>by
   simp only [ay,aY,or_false] at z
   rcases z with z | z
   ·exact jg (puG.same slf) hl0 z
   ·exact (aG (ag:upd G lf (.lst [.int 20]) lf=_) hl0) z.symm
  have hl0G:upd (upd G lf (.lst [.int 20])) l0 (.lst []) l0=some (.lst []):=ag;have Gl0:G l0=none:=none_of slf hl0;have T2:=TG.keepI (d7.same s2);have dm2:Dm G (upd (upd G lf (.lst [.int 20])) l0 (.lst [])):=Dm.same s2;have nB1:upd (upd G lf (.lst [.int 20])) l0 (.lst []) l0≠none:=by
   rw [ag];intro z
   cases z
  revert L2' hl0G T2 dm2 nB1 s2;clear sl0 slf;generalize upd (upd G lf (.lst [.int 20])) l0 (.lst [])=G2;intro s2 L2' hl0G T2 dm2 nB1;refine bR ?_;refine ⟨_,rfl,p,4,rfl,L2'.pu,by decide,by decide,fun r G3 r0 r1' pu3 b3=>⟨_,_,rfl,rfl,1 + r,rfl,by omega,by omega,?_⟩⟩;have mp:p∈[p,lf]:=aD;refine kH (n:=(1 + r).toNat) (fun j σ G'=>∃ (v13:Option V),σ=[some (.ref p),some (.str nm),some (.ref ls),some (.int m),some (.ref ln),some (.ref bl),some (.ref ql),some (.ref dl),some (.ref lt),some (.ref hl),some (.str o),some (.ref lf),some (.ref l0),v13]/\j<=4/\Gro bs qs m 3 (ddz 2) G2 G' l0 j/\Lf G' p lf/\Kp [p,lf,l0] G2 G'/\Dm G2 G')
   ⟨_,rfl,by omega,⟨[],.nil,b3 _ _ hl0G (fun z=>n0 (by rw [z]; exact mp)),aE _,yc,trivial,bH _,bH _⟩,L2'.but b3 pu3,Kp.but b3 aD,b3.dm pu3⟩ ?_ ?_
  ·rintro j σ G4 hj ⟨v13,rfl,j4,gr,L4,k4,dm4⟩;obtain ⟨c0,hc⟩:=L4.hl;refine jQ ?_;refine ⟨_,rfl,lf,_,_,_,rfl,rfl,SqL.of hc,rfl,_,_,rfl,rfl,_,rfl,?_⟩;refine gS (fun _=>?_) (fun _=>?_)
   ·obtain ⟨xs,dd0,h1,h2,h3,h4,h5,h6⟩:=gr.ex;have nl:∀ {a:aa} {o:HO},G2 a=some o->a≠p->a≠lf->a≠l0->G4 a=some o:=fun e n1 n2 n3=>k4 _ _ e fun z=>by
     simp only [ay,aY,or_false] at z
     rcases z with z | z | z
     ·exact n1 z
     ·exact n2 z
     ·exact n3 z
    have ns:∀ {a:aa} {ss:List Str},G2 a=some (.lst (ss.map V.str))->0 < ss.length->G4 a=some (.lst (ss.map V.str)):=fun {a ss} e l=>nl e (kE L2'.pu e) (fun z=>by
     obtain ⟨q,e'⟩:=L2'.hl;rw [z,e'] at e
     cases ss with
     | nil=>cases e
     | cons a b=>cases e) (fun z=>by
     rw [z,hl0G] at e
     cases ss with
     | nil=>cases l
     | cons a b=>cases e)
    have T4:Th G4 lt lb ql ls m bs qs [g0,g1,g2]:=⟨nl T2.ht nP.1 (fun z=>by
      obtain ⟨q,e'⟩:=L2'.hl;have:=T2.ht;rw [z,e'] at this
      cases this) (fun z=>by
      have:=T2.ht;rw [z,hl0G] at this
      cases this),ns T2.hb T2.lb.1,ns T2.hq T2.lq.1,ns T2.hs T2.ls.1,T2.lb,T2.lq,T2.ls,T2.m0⟩
    refine ⟨_,rfl,.inl ⟨rfl,_,SqL.of h1⟩,_,rfl,_,rfl,_,rfl,(bs,qs),p,lt,lb,ql,ls,lf,m,2,rfl,by decide,L4,T4,fun v dd G5 hO t dp' sz5 L5 k45=>?_⟩;refine ⟨l0,xs,v,rfl,rfl,k45 _ _ h1 n0,by omega,?_⟩;refine ⟨_,rfl,by omega,Gro.step n0 L4 k45 nB1 dm4 h1 h2 h3 h4 h5 h6 hO t (by omega) sz5,L5.put n0,fun b o eb nb=>?_,fun a na=>?_⟩
    ·have nb3:b≠l0:=fun z=>nb (by simp [z]);rw [aK nb3];exact k45 _ _ (k4 b o eb nb) fun z=>nb (by
      simp only [ay,aY,or_false] at z
      rcases z with z | z <;> simp [z])
    ·by_cases ca:a=l0
     ·rw [ca,ag] at na
      cases na
     ·rw [aK ca] at na;exact dm4 a (k45.dm L5.there a na)
   ·exact ⟨_,rfl,by omega,gr.up,L4,k4,dm4⟩
  ·rintro σ G4 ⟨v13,rfl,j4,gr,L4,k4,dm4⟩;obtain ⟨xs,dd0,h1,h2,h3,h4,h5,h6⟩:=gr.ex
   -- all but the purse stays
   have kp:Kp [p] G G4:=fun b o e nb=>k4 _ _ (s2 _ _ e) fun z=>by
    simp only [ay,aY,or_false] at z
    rcases z with z | z | z
    ·exact nb (by simp [z])
    ·rw [z,hlf] at e
     cases e
    ·rw [z,Gl0] at e
     cases e
   have ki:d7 G G4:=kp.keepI fun a ha=>by
    obtain ⟨x,y,e⟩:=puG;rw [aH.mp ha];exact ⟨x,_,e⟩
   have hhl4:=kp _ _ hhlG (by simpa using nhp);refine ⟨_,rfl,.inl ⟨rfl,_,SqL.of hhl4⟩,_,rfl,_,rfl,lt2,fun t ht=>?_⟩;have st_:=aA ht (.tup [.str o,.ref l0]);have hhl5:=st_ _ _ hhl4;have lhv:=aX phs;refine ⟨hl,hv,.ref t,rfl,rfl,hhl5,by omega,?_⟩;have nt5:∀ ys,upd G4 t (.tup [.str o,.ref l0]) hl≠some (.tup ys):=fun ys z=>by
    rw [hhl5] at z
    cases z
   have l0GD:GD l0=none:=dmG l0 Gl0;have dmA:Dm GD G2:=dmG.trans dm2;have new:HsO bs qs GD (upd G4 t (.tup [.str o,.ref l0])) (.ref t) (o,dd0):=⟨t,l0,xs,rfl,ag,l0GD,st_ _ _ h1,by omega,(h3.base dmA).keepI (d7.same st_)⟩;have sz:dd0.size<=3 * ddz 4:=by
    have:(1 + r).toNat * ddz 2<=4 * ddz 2:=qP _ j4;have z:4 * ddz 2<=3 * ddz 4:=by decide
    omega
   refine ⟨_,_,_,_,hv++[.ref t],hs++[(o,dd0)],rfl,bz (st_ _ _ (kp _ _ hslG (by simpa using nsp))) nsh,ag,?_,by rw [ax,lhs]; rfl,fun q hq=>?_,m7 (L4.pu.same st_) nhp,fun b o' e nb=>?_,fun a na=>?_⟩
   ·exact eS (Paired.mono (fun v q z=>(z.keepI (ki.trans (d7.same st_))).old nB nt5) phs) (new.old nB nt5)
   ·rcases bU.mp hq with z | z
    ·exact okh q z
    ·rw [aH.mp z];exact ⟨h4,dH h5 (by decide),sz⟩
   ·have nb2:b≠hl:=fun z=>nb (by simp [z]);rw [aK nb2];exact st_ _ _ (kp _ _ (kG _ _ e nb) fun z=>nb (by simp only [aH] at z; simp [z]))
   ·by_cases ca:a=hl
    ·rw [ca,ag] at na
     cases na
    ·rw [aK ca] at na;exact dmA a (dm4 a (none_of st_ na))
 ·rintro σ G ⟨u10,u11,u12,u13,hv,hs,rfl,hslG,hhlG,phs,lhs,okh,puG,kG,dmG⟩;dsimp only;refine fY ⟨_,rfl,_,rfl,_,rfl,_,rfl,_,rfl,by show 5<=au; omega,fun t ht=>?_⟩;have st_:=aA ht (.tup [.str nm,.ref bl,.ref ql,.ref dl,.ref hl]);have nin:∀ {a:aa},a≠p->a≠hl->a∉[p,hl]:=fun n1 n2 z=>by
   simp only [ay,aY,or_false] at z;exact z.elim n1 n2
  have dmH:Dm H GD:=bD.dm puD;have tk:∀ (a:aa) (xs:List V),GD a=some (.tup xs)->upd G t (.tup [.str nm,.ref bl,.ref ql,.ref dl,.ref hl]) a=some (.tup xs):=fun a xs e=>st_ _ _ (kG _ _ e (nin (fun z=>by
   obtain ⟨x,y,e'⟩:=puD;rw [z,e'] at e
   cases e) (fun z=>by
   rw [z,hhlD] at e
   cases e)))
  rw [ai] at lhs;refine k t _ bs qs ds hs ps ⟨⟨bl,ql,dl,hl,vb,hv,ag,st_ _ _ (kG _ _ hblD (nin nbl nT.2.2.2.2.1)),gy.tups tk hbxD,st_ _ _ (kG _ _ TD.hq (nin nql nT.2.2.1)),st_ _ _ (kG _ _ hdlD (nin ndl nT.2.2.2.2.2)),st_ _ _ hhlG,Paired.mono (fun v q z=>(z.keepI (d7.same st_)).base dmH) phs,Hbl,Hql,Hdl,Hhl⟩,kb,ndb,ndq,by omega,by omega,ld,by omega,wb,okh⟩ (puG.same st_) fun b o e nb=>?_;exact st_ _ _ (kG _ _ (bD _ _ e nb) (nin nb (aG e Hhl)))
end
theorem MIn.but {m:Int} {H H' H1:Hp} {p:aa} {v:V} {M:MD} (pu0:dS H p) (pu:dS H' p) (b:But p H' H1) (h:MIn m H H' v M):MIn m H H1 v M:=by
 obtain ⟨t,e,h⟩:=h;exact ⟨t,e,h.but pu0 pu b⟩
theorem at2z {x y:Int} {b:Bool}:atI [V.int x,.int y] (if b=true then 1 else 0)=some (.int (if b=true then y else x)):=by
 cases b <;> rfl
section
variable {P:aL} {w:bN} {K:ae} {mg:Str->Option af} {base:cF} {f fT fN fM:aa} {fd fdT fdN fdM:cw}
seal PS PSs PE PA PT PW PI PG PGs PC
abbrev nLv:List Str:=["_law_purse_here","_law_names_here","_law_signs","_law_machines","_law_outside","_law_k","_law_time","_law_to","_law_sign"]
abbrev pLv:List Str:=["_law_purse_here"]
theorem yf:cv nLv pLv (aQ lr):={}
theorem ndLv:((["_law_name"]:List Str)++nLv).Nodup:=by decide +kernel
inductive Kf (vs:List V) (H:Hp) (Q:VK) (_e:XK):Prop where
 | mk (p:aa) (_:vs=[.ref p]) (_:dS H p) (_:∀ (l ml ol:aa) (xs svs:List V) (Ms:List MD) (es:List Ev) (H':Hp),H' l=some (.lst [.ref ml,.ref ol])->H' ml=some (.lst xs)->aI (MIn Ms.length H H') xs Ms->0 < Ms.length->Ms.length<=4->H' ol=some (.lst svs)->aI (vt H') svs es->es.length < 64->0 < es.length->(∀ e∈es,e.b < 50)->(∀ e∈es,zk Ms.length e)->ml≠p->ol≠p->dS H' p->But p H H'->Q (.ref l) H'):Kf vs H Q _e
def spLv:Sp:=fun vs H Q _e=>Kf vs H Q _e
theorem ok_lv (D:Df K mg "_law_live" lr pLv f fd) (DN:Df K mg "_law_names" jj pN fN fdN) (DM:Df K mg "_law_live_machine" eP pLm fM fdM) (GM0:∀ sgs,cm P w K mg base CX0 11 fM fdM pLm (Mg sgs)) (DT:Df K mg "_law_take" eO pT fT fdT) (B:Bl mg):cm P w K mg base CX0 12 f fd pLv spLv:=by
 have GT:cm P w K mg base CX0 1 fT fdT pT lA:=jY DT B;have GN:cm P w K mg base CX0 2 fN fdN pN ya:=zt DN DT B;have GM:=cm.some (ι:=List Str) (sp:=Mg) (F:=GM0);refine D.F.ok yf (fun vs H Q E h=>?_) (fun cdv A outer s H vs Q E hr h=>?_)
 ·obtain ⟨p,rfl,_⟩:=h;rfl
 obtain ⟨p,rfl,pu,k⟩:=h;have r1:d5 1 _:=hr.mono (by decide);have r2:d5 2 _:=hr.mono (by decide);have r11:d5 11 _:=hr;refine ⟨_,ak (aZ (i:=1) yf.nd rfl (Or.inr rfl) (aO GN r2 (by rfl) DN.m DN.F.kp DN.b .nil bY (aS (pv 0) (rO (bT cV (dh (dR aw (dR aw (dR aw (dR aw ao))))) (aO GT r1 (by rfl) DT.m DT.F.kp DT.b .nil bY (aS (pv 0) (dR aw ao))) (fun _ _=>rfl)) ao))))
  (ak (aZ (i:=2) yf.nd rfl (Or.inr rfl) (aO GN r2 (by rfl) DN.m DN.F.kp DN.b .nil bY (aS (pv 0) (dR aw ao))))
  (ak (pZ (i:=3) ["_law_name"] (iG.open (NN:=nLv) (N:=nLv) (sc:=aQ lr) rfl rfl (by decide +kernel) rfl (by decide +kernel) (by decide +kernel) rfl (by decide +kernel)) rfl yf.nd rfl (Or.inl rfl) (i0 (pv 1)) (fun _ _ _ _=>cP (i:=0) ndLv rfl (Or.inl rfl)) (fun _ _ _ _=>kD) (fun _ _ _ _=>aO GM r11 (by rfl) DM.m DM.F.kp DM.b .nil bY (aS (pv 1) (aS (pv 0) (aS (pv 3) (jK (dB (eR K (by rfl)) (by rfl) B.len cG (aS (pv 2) ao)) ao))))))
  (ak (aZ (i:=4) yf.nd rfl (Or.inl rfl) (dh ao))
  (ak (jy dy rfl (iL (by rfl) B.range (jL (cC ff aw (aO GT r1 (by rfl) DT.m DT.F.kp DT.b .nil bY (aS (pv 0) (dR aw ao)))) ao)) (cP (i:=5) yf.nd rfl (Or.inl rfl)) (ak (aZ (i:=6) yf.nd rfl (Or.inl rfl) (bT cV (dh (jK (aO GT r1 (by rfl) DT.m DT.F.kp DT.b .nil bY (aS (pv 0) (dR aw ao))) (jK (aO GT r1 (by rfl) DT.m DT.F.kp DT.b .nil bY (aS (pv 0) (jL (cC ff (cC xw aw aw) aw) ao))) ao))) (iM pS (by rfl) B.int boot_int (av (nv eG (aO GT r1 (by rfl) DT.m DT.F.kp DT.b .nil bY (aS (pv 0) (dR aw ao))) aw (cj _)) ao)) (fun _ _=>rfl)))
  (ak (aZ (i:=7) yf.nd rfl (Or.inl rfl) (aO GT r1 (by rfl) DT.m DT.F.kp DT.b .nil bY (aS (pv 0) (jK (dB (eR K (by rfl)) (by rfl) B.len cG (aS (pv 1) ao)) ao))))
  (ak (aZ (i:=8) yf.nd rfl (Or.inl rfl) (bT cV (pv 2) (aO GT r1 (by rfl) DT.m DT.F.kp DT.b .nil bY (aS (pv 0) (dR aw ao))) (fun _ _=>rfl)))
  (aF (eK (kQ cy cJ cK gN (pv 4) (jT (cR (aS (pv 6) (jK (aO GT r1 (by rfl) DT.m DT.F.kp DT.b .nil bY (aS (pv 0) (dR aw ao))) (aS (pv 7) (aS (pv 8) (jL (cC kN (aO GT r1 (by rfl) DT.m DT.F.kp DT.b .nil bY (aS (pv 0) (dR aw ao))) aw) (jK (aO GT r1 (by rfl) DT.m DT.F.kp DT.b .nil bY (aS (pv 0) (dR aw ao))) ao))))))) ao) (hs:=zp))))))))
  (aF (bQ (dh (aS (pv 3) (aS (pv 4) ao))))))))),?_⟩
 have big:=fq;have c6:Ef 10 6:=⟨by decide,by decide,by decide⟩;have e6:(10:Int) ^ (6:Int).toNat=1000000:=by decide
 -- the names, the signs
 refine bR (cI ?_);refine ⟨_,rfl,by show 4<=au; decide,fun l0 hl0=>?_⟩;have sl0:=aA hl0 (.lst [.int 2,.int 3,.int 1,.int 4]);have nl0:l0≠p:=jg pu hl0;refine ⟨_,rfl,p,4,rfl,pu.same sl0,by decide,by decide,fun r G1 r0 r1' pu1 b1=>?_⟩;obtain ⟨n,hat,n0,n4⟩:∃ n:Nat,atI [V.int 2,.int 3,.int 1,.int 4] r=some (.int (n:Int))/\0 < n/\n<=4:=by
  have cs:r=0\/r=1\/r=2\/r=3:=by omega
  rcases cs with rfl | rfl | rfl | rfl
  ·exact ⟨2,rfl,by decide,by decide⟩
  ·exact ⟨3,rfl,by decide,by decide⟩
  ·exact ⟨1,rfl,by decide,by decide⟩
  ·exact ⟨4,rfl,by decide,by decide⟩
 refine ⟨l0,_,_,_,rfl,rfl,SqL.of (b1 _ _ ag nl0),hat,p,n,rfl,pu1,by omega,by omega,fun ln ns G2 hln hlnG lns _ pu2 b2=>?_⟩;refine aU ?_;dsimp only;have B2:But p H G2:=fun b o e nb=>b2 _ _ (b1 _ _ (sl0 _ _ e) nb) nb;have nln:=kE pu2 hlnG;refine bR (cI ?_);refine ⟨_,rfl,p,3,rfl,pu2,by decide,by decide,fun ls sgs G3 hls hlsG lsg _ pu3 b3=>?_⟩;refine aU ?_;dsimp only;have nls:=kE pu3 hlsG;have hln3:=b3 _ _ hlnG nln;have B3:But p H G3:=B2.trans b3
 -- the machines
 refine bR (cI ?_);refine qO (K:=K) (a:=ln) (xs:=ns.map V.str) (fun R h=>⟨_,rfl,h⟩) (SqL.of hln3) (fun i ys G=>∃ Ms:List MD,aI (MIn n H G) ys Ms/\Ms.length=i/\dS G p/\But p G3 G) ⟨[],.nil,rfl,pu3,But.refl _ _⟩ ?_ ?_ ?_
 ·rintro i ys G hi ⟨Ms,h1,h2,h3,h4⟩;rw [ai] at hi;have:=aX h1;exact ⟨SqL.of (h4 _ _ hln3 nln),by omega⟩
 ·rintro i x ys G hi ⟨Ms,h1,h2,h3,h4⟩;rw [bS] at hi;obtain ⟨nm,hnm,rfl⟩:∃ o,ns[i]?=some o/\x=.str o:=by
   cases z:ns[i]? with
   | none =>
    rw [z] at hi
    cases hi
   | some o =>
    rw [z] at hi
    cases hi;exact ⟨o,rfl,rfl⟩
  refine ⟨rfl,?_⟩;unfold vR;refine iF ?_;have en:((ns.map V.str).length:Int)=(n:Int):=by
   rw [ai];exact lns
  refine ⟨_,rfl,_,rfl,_,rfl,_,rfl,ln,_,rfl,.inl (SqL.of (h4 _ _ hln3 nln)),sgs,p,ls,nm,n,(by show [V.ref p,V.str nm,V.ref ls,V.int ((ns.map V.str).length:Int)]=_; rw [en]),h3,h4 _ _ hlsG nls,by omega,by omega,by omega,fun t G' bs qs ds hs ps mch pu' b'=>?_⟩;refine ⟨Ms++[⟨nm,bs,qs,ds,hs,ps⟩],?_,by rw [ax,h2]; rfl,pu',h4.trans b'⟩;exact eS (Paired.mono (fun v M z=>MIn.but pu h3 b' z) h1) ⟨t,rfl,mch.base ((B3.trans h4).dm h3)⟩
 rintro xs G9 ⟨Ms,hMs,lMs,pu9,b9⟩ ml hml;rw [ai] at lMs;have sml:=aA hml (.lst xs);have lMn:Ms.length=n:=by omega
 refine aU ?_;dsimp only;have nml:ml≠p:=jg pu9 hml;have BA:But p H (upd G9 ml (.lst xs)):=(B3.trans b9).same sml;have puA:=pu9.same sml;have hmlA:upd G9 ml (.lst xs) ml=some (.lst xs):=ag;have hMsA:aI (MIn n H (upd G9 ml (.lst xs))) xs Ms:=Paired.mono (fun v M ⟨t,e,z⟩=>⟨t,e,z.same sml⟩) hMs;have hlnA:=sml _ _ (b9 _ _ hln3 nln);have hlsA:=sml _ _ (b9 _ _ hlsG nls);revert BA puA hmlA hMsA hlnA hlsA;clear sml hml hMs b9 pu9;generalize upd G9 ml (.lst xs)=GA;intro BA puA hmlA hMsA hlnA hlsA
 -- the outside signs
 refine bR (cI ?_);refine ⟨bH _,fun ol hol=>?_⟩;have sol:=aA hol (.lst []);have nol:ol≠p:=jg puA hol;refine aU ?_;dsimp only;refine bR ?_;refine ⟨_,rfl,p,5,rfl,puA.same sol,by decide,by decide,fun rr GB rr0 rr1 puB bB=>⟨_,_,rfl,rfl,1 + rr,rfl,by omega,by omega,?_⟩⟩;refine kH (n:=(1 + rr).toNat) (fun i σ G=>∃ (u5 u6 u7 u8:Option V) (svs:List V) (es:List Ev),σ=[some (.ref p),some (.ref ln),some (.ref ls),some (.ref ml),some (.ref ol),u5,u6,u7,u8]/\G ol=some (.lst svs)/\aI (vt G) svs es/\es.length=i/\(∀ e∈es,zk n e/\e.b < 50)/\dS G p/\But p GA G)
  ⟨_,_,_,_,[],[],rfl,bB _ _ ag nol,.nil,rfl,(fun e he=>by cases he),puB,fun b o e nb=>bB _ _ (sol _ _ e) nb⟩ ?_ ?_
 ·rintro i σ G hi ⟨u5,u6,u7,u8,svs,es,rfl,hsv,psv,les,oke,puG,bG⟩;have hlnG':=bG _ _ hlnA nln;have hlsG':=bG _ _ hlsA nls;refine bR (cI ?_);refine ⟨_,rfl,p,12,rfl,puG,by decide,by decide,fun a1 Ga a10 a11 pua ba=>⟨_,rfl,_,_,rfl,rfl,c6,_,_,rfl,rfl,p,_,rfl,pua,by decide,by decide,fun a2 Gb a20 a21 pub bb=>⟨lt2,fun l2 hl2=>?_⟩⟩⟩;have sl2:=aA hl2 (.lst [.int a1,.int a2]);have nl2:l2≠p:=jg pub hl2;refine ⟨_,rfl,p,8,rfl,pub.same sl2,by decide,by decide,fun a3 Gc a30 a31 puc bc=>⟨rfl,.inr ⟨_,rfl,l2,_,_,_,rfl,rfl,SqL.of (bc _ _ ag nl2),at2z,?_⟩⟩⟩;have a21':a2 < 1000001:=a21;obtain ⟨ti,hti,ti0,ti1⟩:∃ ti:Int,(if decide (V.int a3=V.int 7)=true then a2 else a1)=ti/\0<=ti/\ti<=1000000:=⟨_,rfl,by split <;> omega,by split <;> omega⟩;rw [hti];refine aU ?_;dsimp only;have bGc:But p G Gc:=fun b o e nb=>bc _ _ (sl2 _ _ (bb _ _ (ba _ _ e nb) nb)) nb;refine bR (cI ?_);refine ⟨_,rfl,_,rfl,ln,_,rfl,.inl (SqL.of (bGc _ _ hlnG' nln)),p,_,rfl,puc,by rw [ai]; omega,by rw [ai]; omega,fun to Gd to0 to1 pud bd=>?_⟩;rw [ai] at to1;refine aU ?_;dsimp only;refine bR (cI ?_);refine ⟨_,rfl,_,rfl,p,3,rfl,pud,by decide,by decide,fun si Ge si0 si1 pue be=>?_⟩;obtain ⟨sg,hsg,_⟩:=lB (bs:=sgs) si0 (by omega);have bGe:But p G Ge:=(bGc.trans bd).trans be;refine ⟨ls,_,_,_,rfl,rfl,SqL.of (bGe _ _ hlsG' nls),hsg,?_⟩;refine aU ?_;dsimp only;have hsve:=bGe _ _ hsv nol;refine ⟨_,rfl,.inl ⟨rfl,_,SqL.of hsve⟩,_,rfl,_,rfl,p,4,rfl,pue,by decide,by decide,fun rk Gf rk0 rk1 puf bf=>⟨_,rfl,_,rfl,_,rfl,p,9,rfl,puf,by decide,by decide,fun va Gg va0 va1 pug bg=>⟨_,_,rfl,rfl,_,rfl,p,50,rfl,pug,by decide,by decide,fun vb Gh vb0 vb1 puh bh=>⟨by show 6<=au; omega,fun t ht=>?_⟩⟩⟩⟩;have st_:=aA ht (.tup [.int ti,.int rk,.int to,.str sg,.int (va - 2),.int vb]);have bGh:But p G Gh:=((bGe.trans bf).trans bg).trans bh;have hsvh:=st_ _ _ (bGh _ _ hsv nol);have lsv:=aX psv;refine ⟨ol,svs,.ref t,rfl,rfl,hsvh,by omega,?_⟩;have w15:(10:Int) ^ 15=1000000000000000:=by decide
  refine ⟨_,_,_,_,svs++[.ref t],es++[⟨ti,rk,0,0,to,sg,va - 2,vb⟩],rfl,ag,?_,by rw [ax,les]; rfl,fun e he=>?_,m7 (puh.same st_) nol,fun b o e nb=>bz (st_ _ _ (bGh _ _ (bG _ _ e nb) nb)) (aG e hol)⟩
  ·refine eS (Paired.mono (fun v e ⟨t',e',h⟩=>⟨t',e',?_⟩) psv) ⟨t,rfl,bz ag (aG (bGh _ _ hsv nol) ht).symm⟩;exact bz (st_ _ _ (d7.but puG bGh _ _ h (kn _))) (mr (st_ _ _ (d7.but puG bGh _ _ h (kn _))) hsvh (by intro z; cases z))
  ·rcases bU.mp he with z | z
   ·exact oke e z
   ·rw [aH.mp z];refine ⟨⟨to0,by show to < (n:Int); omega,?_,?_,?_⟩,vb1⟩
    ·exact iS ⟨by show -1000000<=ti; omega,by show ti<=1000000; omega⟩
    ·exact iS ⟨by show -1000000<=va - 2; omega,by show va - 2<=1000000; omega⟩
    ·exact iS ⟨by show -1000000<=vb; omega,by show vb<=1000000; omega⟩
 ·rintro σ G ⟨u5,u6,u7,u8,svs,es,rfl,hsv,psv,les,oke,puG,bG⟩;dsimp only;refine fY ⟨_,rfl,_,rfl,lt2,fun l hl=>?_⟩;have st_:=aA hl (.lst [.ref ml,.ref ol]);refine k l ml ol xs svs Ms es _ ag (st_ _ _ (bG _ _ hmlA nml)) ?_ (by omega) (by omega) (st_ _ _ hsv) (Paired.mono (fun _ _ z=>z.same st_) psv) (by omega) (by omega) (fun e he=>(oke e he).2) ?_ nml nol (puG.same st_) ((BA.trans bG).same st_)
  ·rw [lMn];exact Paired.mono (fun v M ⟨t,e,z⟩=>⟨t,e,(z.but pu puA bG).same st_⟩) hMsA
  ·rw [lMn];exact fun e he=>(oke e he).1
end
end My
namespace L2
open PySem PySem.Spec PyProof.Rows PySem.SeqAt
abbrev Ed:=List (Sum Str (List Int))
def vX (H:Hp) (v:V):Sum Str (List Int)->Prop
 | .inl s=>v=.str s
 | .inr n=>∃ a,v=.ref a/\H a=some (.tup (n.map V.int))
def vY (H:Hp) (p:aa) (E:Ed):Prop:=∃ xs,H p=some (.tup xs)/\aI (vX H) xs E
theorem vX.same {H G:Hp} (s:bj H G) {v:V}:∀ {q:Sum Str (List Int)},vX H v q->vX G v q
 | .inl _,h=>h
 | .inr _,⟨a,e,h⟩=>⟨a,e,s _ _ h⟩
theorem vY.same {H G:Hp} (s:bj H G) {p:aa} {E:Ed} (h:vY H p E):vY G p E:=by
 obtain ⟨xs,h1,h2⟩:=h;exact ⟨xs,s _ _ h1,Paired.mapP h2 fun _ _ z=>z.same s⟩
theorem zu {α:Type} [DecidableEq α] {n m:List α}:((ig (min n.length m.length)).all (fun i=>decide (n[i]?=m[i]?)) && n.length == m.length)=decide (n=m):=by
 by_cases c:n=m
 ·subst c;rw [decide_eq_true rfl,beq_self_eq_true,Mh];exact oB.mpr fun i _=>decide_eq_true rfl
 ·rw [decide_eq_false c,Bool.eq_false_iff];intro z;rw [oq] at z;have l:n.length=m.length:=by simpa using z.2
  refine c (jN fun i=>?_)
  rcases lK i n.length with lt | ge
  ·exact of_decide_eq_true (oB.mp z.1 i (iT.mpr (by omega)))
  ·rw [cT ge,cT (by omega)]
theorem yg {α β:Type} {R:α->β->Prop}:∀ {xs:List α} {ys:List β} (p:aI R xs ys) {j:Nat} (h:j < xs.length),R (xs[j]) (ys[j]'(by rw [<- aX p]; exact h))
 | _,_,.nil,j,h=>by cases h
 | _,_,.cons a b,0,h=>a
 | _,_,.cons a b,j + 1,h=>yg b (by simpa using h)
section
variable {P:aL} {w:bN} {H:Hp} {s:ar}
theorem Ji (ok:HOk P w H s.heap) {A:bZ} {a b:aa} {n m:List Int} (hu:A.units + 3 < d8) (ha:H a=some (.tup (n.map V.int))) (hb:H b=some (.tup (m.map V.int))):EqAt A s (.ref a) (.ref b) (decide (n=m)):=by
 by_cases c:a=b
 ·subst c;rw [ha] at hb;have e:n=m:=sf (fun _ _ z=>by cases z; rfl) |>.mp (HO.tup.inj (cQ hb));rw [decide_eq_true e];exact EqAt.same _
 refine EqAt.of_refs c ?_;obtain ⟨us,r1,i1⟩:=fi ok ha;obtain ⟨vs,r2,i2⟩:=fi ok hb;have l1:=r1.length;have l2:=r2.length;rw [ai] at l1 l2;have k:=RcAt.tuples (A:=A) (e:=fun i=>decide (n[i]?=m[i]?)) i1 i2 (by omega) (fun j p q=>by
  have jp:j < us.length:=by simpa using p
  have jq:j < vs.length:=by simpa using q
  have hx:(n.map V.int)[j]?=some (.int (n[j]'(by omega))):=by rw [bS,aj (by omega)]; rfl
  have hy:(m.map V.int)[j]?=some (.int (m[j]'(by omega))):=by rw [bS,aj (by omega)]; rfl
  obtain ⟨u,eu,⟨t,rfl⟩⟩:=r1.get hx;obtain ⟨v,ev,⟨t',rfl⟩⟩:=r2.get hy;have z:=EqAt.int_int (A:=A.in1) (s:=s) (n[j]'(by omega)) t (m[j]'(by omega)) t';have ee:decide (n[j]?=m[j]?)=((n[j]'(by omega)) == (m[j]'(by omega))):=by
   rw [aj (by omega),aj (by omega)]
   by_cases c:n[j]'(by omega)=m[j]'(by omega)
   ·rw [c,decide_eq_true rfl,beq_self_eq_true]
   ·rw [decide_eq_false (fun z=>c (cQ z)),beq_eq_false_iff_ne.mpr c]
  show EqAt A.in1 s _ _ (decide (n[j]?=m[j]?));rw [ee];have e1:us[j]=_:=(aC.mp eu).2;have e2:vs[j]=_:=(aC.mp ev).2;simpa [e1,e2] using z)
 rw [aB,aB,<- l1,<- l2,zu] at k;exact k
theorem it_at (ok:HOk P w H s.heap) {A:bZ} {x y:V} {p q:Sum Str (List Int)} {u v:af} (hu:A.units + 4 < d8) (hx:vX H x p) (hy:vX H y q) (rx:RelV x u) (ry:RelV y v):EqAt A s u v (decide (p=q)):=by
 cases p with
 | inl i =>
  cases hx;obtain ⟨t,rfl⟩:=rx
  cases q with
  | inl j =>
   cases hy;obtain ⟨t',rfl⟩:=ry;have z:=EqAt.str_str (A:=A) (s:=s) i t j t';have e:(i == j)=decide ((Sum.inl i:Sum Str (List Int))=.inl j):=by
    by_cases c:i=j
    ·rw [c,decide_eq_true rfl,beq_self_eq_true]
    ·rw [decide_eq_false (fun z=>c (tL z)),beq_eq_false_iff_ne.mpr c]
   rw [e] at z;exact z
  | inr m =>
   obtain ⟨b,rfl,hb⟩:=hy
   cases ry;obtain ⟨vs,r2,i2⟩:=fi ok hb;rw [decide_eq_false (by intro z; cases z)];exact EqAt.str_tuple i t i2 (by omega)
 | inr n =>
  obtain ⟨a,rfl,ha⟩:=hx
  cases rx;obtain ⟨us,r1,i1⟩:=fi ok ha
  cases q with
  | inl j =>
   cases hy;obtain ⟨t',rfl⟩:=ry;rw [decide_eq_false (by intro z; cases z)];exact EqAt.tuple_str j t' i1 (by omega)
  | inr m =>
   obtain ⟨b,rfl,hb⟩:=hy
   cases ry;have z:=Ji (A:=A) ok (by omega) ha hb;have e:decide (n=m)=decide ((Sum.inr n:Sum Str (List Int))=.inr m):=by
    by_cases c:n=m
    ·rw [c,decide_eq_true rfl,decide_eq_true rfl]
    ·rw [decide_eq_false c,decide_eq_false (fun z=>c (iB z))]
   rw [e] at z;exact z
end
section
variable {X:Cx}
theorem Gq {pins:List (aa×Obj)} {s:ar} {σ:St} {H:Hp} (I:Inv X pins σ H s) (hu:X.A.units + 50 < d8) {xs ys:List V} {E F:Ed} {us vs:List af} (h1:aI (vX H) xs E) (h2:aI (vX H) ys F) (r1:cX xs us) (r2:cX ys vs) :
  ∀ j (p:j < us.toArray.size) (q:j < vs.toArray.size),EqAt X.A.in1 s us.toArray[j] vs.toArray[j] (decide (E[j]?=F[j]?)):=fun j p q=>by
 have jp:j < us.length:=by simpa using p
 have jq:j < vs.length:=by simpa using q
 have l1:=r1.length;have l2:=r2.length;have m1:=aX h1;have m2:=aX h2;obtain ⟨u,eu,ru⟩:=r1.get (aj (l:=xs) (i:=j) (by omega));obtain ⟨v,ev,rv⟩:=r2.get (aj (l:=ys) (i:=j) (by omega));have at1:vX H (xs[j]'(by omega)) (E[j]'(by omega)):=yg h1 (by omega);have at2:vX H (ys[j]'(by omega)) (F[j]'(by omega)):=yg h2 (by omega);have z:=it_at (A:=X.A.in1) I.hok (by show X.A.units + 1 + 4 < d8; omega) at1 at2 ru rv;have ee:decide (E[j]?=F[j]?)=decide (E[j]'(by omega)=F[j]'(by omega)):=by
  rw [aj (by omega),aj (by omega)]
  by_cases c:E[j]'(by omega)=F[j]'(by omega)
  ·rw [c,decide_eq_true rfl,decide_eq_true rfl]
  ·rw [decide_eq_false c,decide_eq_false (fun z=>c (cQ z))]
 rw [ee];have e1:us[j]=_:=(aC.mp eu).2;have e2:vs[j]=_:=(aC.mp ev).2;simpa [e1,e2] using z
def rEqE:R2:=fun x y H Q=>∃ p q E F,x=.ref p/\y=.ref q/\vY H p E/\vY H q F/\Q (.bl (decide (E=F))) H
theorem Gr (hu:X.A.units + 50 < d8):OpR X (dZ .Eq) rEqE:=by
 intro pins s σ H x y v u Q I rx ry h;obtain ⟨p,q,E,F,rfl,rfl,⟨xs,h1,h2⟩,⟨ys,h3,h4⟩,k⟩:=h
 cases rx
 cases ry;have fin:EP X pins σ Q (.bool (decide (E=F))) s:=⟨.bl _,H,I,rfl,k⟩;obtain ⟨us,r1,i1⟩:=fi I.hok h1;obtain ⟨vs,r2,i2⟩:=fi I.hok h3;have z:=RcAt.tuples (A:=X.A) (e:=fun i=>decide (E[i]?=F[i]?)) i1 i2 (by omega) (Gq I hu h2 h4 r1 r2);rw [aB,aB,<- r1.length,<- r2.length,aX h2,aX h4,zu] at z;exact z X.prog X.w _ _ fin
end
end L2
namespace My
open PySem L2
section
variable {Ms:List MD} {r:RS}
theorem B4 (Ms:List MD) (r:RS):∀ (i d:Nat),∃ t,(itR Ms r (i + d)).2=(itR Ms r i).2++t
 | i,0=>⟨[],by rw [dE]; rfl⟩
 | i,d + 1=>by
  obtain ⟨t,e⟩:=B4 Ms r i d;refine ⟨t++(g9 Ms (itR Ms r (i + d)).1).2,?_⟩;show (itR Ms r (i + d)).2++(g9 Ms (itR Ms r (i + d)).1).2=_;rw [e,gY]
theorem been {most:Int} (mo:rN Ms):∀ {i:Nat},(∀ j,j < i->ROk Ms.length (itR Ms r j).1/\km (itR Ms r j).1 (most - (itR Ms r j).2.length)=none)->(∀ j,j < i->(itR Ms r j).2.length=j)/\(itR Ms r i).2.length<=i
 | 0,_=>⟨fun j hj=>absurd hj (kX _),aE _⟩
 | i + 1,h=>by
  obtain ⟨h2,h3⟩:=been (i:=i) mo fun j hj=>h j (by omega);have di:=m6 (h i (by omega)).2;have ri:=(h i (by omega)).1;obtain ⟨_,s2⟩:=vB (uL mo ri di.2.1);have li:(itR Ms r i).2.length=i:=by
   cases i with
   | zero=>rfl
   | succ i =>
    -- the turn ahead of it told a record, else it would be over
    have e:(itR Ms r (i + 1)).2=(itR Ms r i).2++(g9 Ms (itR Ms r i).1).2:=rfl;have dj:=m6 (h i (by omega)).2;obtain ⟨_,s2'⟩:=vB (uL mo (h i (by omega)).1 dj.2.1)
    rcases s2' with ⟨q,eq⟩ | ⟨_,sp,esp⟩
    ·rw [e,eq,ax,h2 i (by omega)];rfl
    ·have:(itR Ms r (i + 1)).1.sp=some sp:=esp;rw [di.1] at this
     cases this
  refine ⟨fun j hj=>?_,?_⟩
  ·rcases lK j i with z | z
   ·exact h2 j z
   ·have:j=i:=by omega
    rw [this];exact li
  ·have e:(itR Ms r (i + 1)).2=(itR Ms r i).2++(g9 Ms (itR Ms r i).1).2:=rfl;rw [e,ax,li]
   rcases s2 with ⟨q,eq⟩ | ⟨eq,_⟩
   ·rw [eq];exact aE _
   ·rw [eq];exact gc _
theorem Dj {most:Int} {i:Nat} {e:End} (mo:rN Ms) (s:vC Ms r most i e) (m0:0<=most):((itR Ms r i).2.length:Int)<=most:=by
 cases i with
 | zero =>
  show ((0:Nat):Int)<=most;omega
 | succ i =>
  obtain ⟨h1,h2⟩:=been mo s.1;have d:=m6 (s.1 i (by omega)).2;have:=h1 i (by omega);omega
theorem zv {r:RS} {a b:Int} (h:km r a=none) (l:a<=b):km r b=none:=by
 obtain ⟨h1,h2,h3⟩:=m6 h;unfold km;rw [h1];dsimp only;rw [if_neg,if_neg (by omega)];intro z;exact h2 (List.isEmpty_iff.mp z)
end
theorem vC.uniq {Ms:List MD} {r:RS} {most:Int} {i i':Nat} {e e':End} (a:vC Ms r most i e) (b:vC Ms r most i' e'):i=i'/\e=e':=by
 have ei:i=i':=by
  rcases Nat.lt_trichotomy i i' with z | z | z
  ·have:=(b.1 i z).2;rw [a.2.1] at this
   cases this
  ·exact z
  ·have:=(a.1 i' z).2;rw [b.2.1] at this
   cases this
 subst ei;have:=a.2.1.symm.trans b.2.1
 cases this;exact ⟨rfl,rfl⟩
def Bk (Ms:List MD) (es:List Ev) (k:Int) (rs:List Rec) (e:End):Prop:=∃ i,vC Ms (uo Ms es) k i e/\rs=(itR Ms (uo Ms es) i).2
section
variable {Ms:List MD} {es:List Ev} {k k':Int} {rs rs':List Rec} {e e':End}
theorem Bk.uniq (a:Bk Ms es k rs e) (b:Bk Ms es k rs' e'):rs=rs'/\e=e':=by
 obtain ⟨i,h1,rfl⟩:=a;obtain ⟨j,h2,rfl⟩:=b;obtain ⟨rfl,rfl⟩:=h1.uniq h2;exact ⟨rfl,rfl⟩
theorem Bk.few (mo:rN Ms) (k0:0<=k) (a:Bk Ms es k rs e):(rs.length:Int)<=k:=by
 obtain ⟨i,h1,rfl⟩:=a;exact Dj mo h1 k0
theorem Bk.pre (mo:rN Ms) (k0:0<=k) (l:k<=k') (a:Bk Ms es k rs e) (b:Bk Ms es k' rs' e'):rs=rs'.take rs.length:=by
 have f:=a.few mo k0;obtain ⟨i,h1,rfl⟩:=a;obtain ⟨j,h2,rfl⟩:=b
 rcases Nat.le_total i j with z | z
 ·obtain ⟨t,et⟩:=B4 Ms (uo Ms es) i (j - i);rw [show i + (j - i)=j by omega] at et;rw [et,List.take_left'];rfl
 ·rcases lK j i with y | y
  ·have d1:=(h1.1 j y).2;have d2:=h2.2.1;rw [zv d1 (by omega)] at d2
   cases d2
  ·have:i=j:=by omega
   subst this;rw [dQ]
theorem Bk.cut (mo:rN Ms) (k0:0<=k) (a:Bk Ms es k rs .cut):(rs.length:Int)=k:=by
 have f:=a.few mo k0;obtain ⟨i,h1,rfl⟩:=a;have d:=h1.2.1;unfold km at d
 split at d
 ·cases d
 ·split at d
  ·cases d
  ·split at d
   ·omega
   ·cases d
theorem Bk.more (l:k<=k') (n:e≠.cut) (a:Bk Ms es k rs e):Bk Ms es k' rs e:=by
 obtain ⟨i,h1,rfl⟩:=a;refine ⟨i,⟨fun j hj=>⟨(h1.1 j hj).1,zv (h1.1 j hj).2 (by omega)⟩,?_,h1.2.2⟩,rfl⟩;have d:=h1.2.1;unfold km at d |-
 split at d
 ·exact d
 ·split at d
  ·rename_i c
   rw [if_pos c];exact d
  ·split at d
   ·cases d;exact absurd rfl n
   ·cases d
def Pre (Ms:List MD) (es:List Ev) (rs:List Rec):Prop:=∃ k rk ek,0<=k/\Bk Ms es k rk ek/\rs=rk.take rs.length/\rs.length<=rk.length
theorem Bk.isPre (k0:0<=k) (a:Bk Ms es k rs e):Pre Ms es rs:=⟨k,rs,e,k0,a,by rw [dQ],aE _⟩
theorem Pre.same (mo:rN Ms) (k0:0<=k) (p:Pre Ms es rs) (a:Bk Ms es k rs' e) (l:rs'.length=rs.length):rs'=rs:=by
 obtain ⟨K,rk,ek,K0,b,h1,h2⟩:=p
 rcases Int.le_total K k with z | z
 ·have q:=b.pre mo K0 z a;rw [h1,q,List.take_take,iy h2,<- l,dQ]
 ·have q:=a.pre mo k0 z b;rw [h1,q,l]
end
def tG:End->Ed
 | .empty=>[.inl "empty"]
 | .cut=>[.inl "cut"]
 | .stp (.fin h)=>[.inl "end",.inr h.key]
 | .stp (.flt f h)=>[.inl "fault",.inl (pK f),.inr h.key]
theorem Mj {F:Hp} {v:V}:∀ {e:End},vz F v e->∃ t,v=.ref t/\vY F t (tG e)
 | .empty,⟨t,e,h⟩=>⟨t,e,_,h,.cons rfl .nil⟩
 | .cut,⟨t,e,h⟩=>⟨t,e,_,h,.cons rfl .nil⟩
 | .stp (.fin _),⟨t,k,e,h1,h2⟩=>⟨t,e,_,h1,.cons rfl (.cons ⟨k,rfl,h2⟩ .nil)⟩
 | .stp (.flt _ _),⟨t,k,e,h1,h2⟩=>⟨t,e,_,h1,.cons rfl (.cons rfl (.cons ⟨k,rfl,h2⟩ .nil))⟩
theorem Ml {e:End} (h:tG e=[.inl "cut"]):e=.cut:=by
 cases e with
 | empty =>
  injection h with h;injection h with h;exact absurd h (by decide +kernel)
 | cut=>rfl
 | stp s =>
  cases s with
  | fin x=>cases h
  | flt f x=>cases h
def Rcs (H:Hp) (l:aa) (rs:List Rec):Prop:=∃ xs,H l=some (.lst xs)/\aI (RcIn H) xs rs
theorem Rcs.same {H G:Hp} (s:bj H G) {l:aa} {rs:List Rec} (h:Rcs H l rs):Rcs G l rs:=by
 obtain ⟨xs,h1,h2⟩:=h;exact ⟨xs,s _ _ h1,Paired.mono (fun _ _ z=>z.same s) h2⟩
end My
namespace L2
open PySem PySem.Spec PyProof.Rows PySem.SeqAt
def IL (H:Hp) (x y:V) (b:Bool):Prop:=b=false/\((∃ (i:Int) (l:aa) (xs:List V),x=.int i/\y=.ref l/\H l=some (.lst xs))\/∃ (i:Int) (l:aa) (xs:List V),x=.ref l/\y=.int i/\H l=some (.lst xs))
def BSm (H:Hp) (x y:V) (b:Bool):Prop:=BSc x y b\/IL H x y b
def BEm (H:Hp):Nat->V->V->Bool->Prop
 | 0,x,y,b=>BSm H x y b
 | n + 1,x,y,b=>BSm H x y b\/∃ p q xs ys,x=.ref p/\y=.ref q/\((H p=some (.lst xs)/\H q=some (.lst ys)/\xs.length≠ys.length/\b=false) \/
   (((H p=some (.lst xs)/\H q=some (.lst ys))\/(H p=some (.tup xs)/\H q=some (.tup ys)))/\xs.length=ys.length/\∃ e:Nat->Bool,(∀ i x y,xs[i]?=some x->ys[i]?=some y->BEm H n x y (e i))/\b=(ig xs.length).all e))
theorem BSm.self {H:Hp} {x:V} {b:Bool} (h:BSm H x x b):b=true:=by
 rcases h with h | ⟨_,⟨i,l,xs,e1,e2,_⟩ | ⟨i,l,xs,e1,e2,_⟩⟩
 ·exact h.self
 ·rw [e1] at e2
  cases e2
 ·rw [e1] at e2
  cases e2
theorem BEm.self {H:Hp}:∀ {n:Nat} {x:V} {b:Bool},BEm H n x x b->b=true
 | 0,_,_,h=>BSm.self h
 | n + 1,x,b,h=>by
  rcases h with h | ⟨p,q,xs,ys,e1,e2,h⟩
  ·exact h.self
  ·rw [e1] at e2
   cases e2
   rcases h with ⟨h1,h2,h3,_⟩ | ⟨h1,_,e,he,rfl⟩
   ·rw [h1] at h2
    cases h2;exact absurd rfl h3
   ·have exy:xs=ys:=by
     rcases h1 with ⟨h1,h2⟩ | ⟨h1,h2⟩
     ·rw [h1] at h2
      cases h2;rfl
     ·rw [h1] at h2
      cases h2;rfl
    subst exy;rw [oB];intro i hi;have lt:=iT.mp hi;exact BEm.self (he i _ _ (aj lt) (aj lt))
section
variable {P:aL} {w:bN} {H:Hp} {s:ar}
theorem Gs (ok:HOk P w H s.heap) {A:bZ} {x y:V} {u v:af} {b:Bool} (hu:A.units < d8) (h:BSm H x y b) (ru:RelV x u) (rv:RelV y v):EqAt A s u v b:=by
 rcases h with h | ⟨rfl,⟨i,l,xs,rfl,rfl,hl⟩ | ⟨i,l,xs,rfl,rfl,hl⟩⟩
 ·exact K1 h ru rv
 ·obtain ⟨t,rfl⟩:=(show ∃ t,u=Value.int i t from ru)
  cases rv;obtain ⟨us,r1,i1⟩:=e9 ok hl;exact EqAt.int_list i t i1 hu
 ·obtain ⟨t,rfl⟩:=(show ∃ t,v=Value.int i t from rv)
  cases ru;obtain ⟨us,r1,i1⟩:=e9 ok hl;exact EqAt.list_int i t i1 hu
theorem Gu (ok:HOk P w H s.heap) {A:bZ} {n:Nat} {p q:aa} {xs ys:List V} {b:Bool} (hu:A.units < d8)
  (rec:∀ x y b,BEm H n x y b->∀ u v,RelV x u->RelV y v->EqAt A.in1 s u v b)
  (h:(H p=some (.lst xs)/\H q=some (.lst ys)/\xs.length≠ys.length/\b=false) \/
   (((H p=some (.lst xs)/\H q=some (.lst ys))\/(H p=some (.tup xs)/\H q=some (.tup ys)))/\xs.length=ys.length/\∃ e:Nat->Bool,(∀ i x y,xs[i]?=some x->ys[i]?=some y->BEm H n x y (e i))/\b=(ig xs.length).all e)):RcAt A s (.ref p) (.ref q) b:=by
 rcases h with ⟨h1,h2,h3,rfl⟩ | ⟨h1 | h1,hl,e,he,rfl⟩
 ·obtain ⟨us,r1,i1⟩:=e9 ok h1;obtain ⟨vs,r2,i2⟩:=e9 ok h2;refine RcAt.lists_lengths i1 i2 ?_ hu;rw [aB,aB,<- r1.length,<- r2.length];exact bne_iff_ne.mpr h3
 ·obtain ⟨us,r1,i1⟩:=e9 ok h1.1;obtain ⟨vs,r2,i2⟩:=e9 ok h1.2;have l1:=r1.length;have l2:=r2.length;have k:=RcAt.lists (A:=A) (e:=e) i1 i2 (by rw [aB,aB]; omega) hu (fun j a b=>by
   have ja:j < us.length:=by simpa using a
   have jb:j < vs.length:=by simpa using b
   have hx:xs[j]?=some (xs[j]'(by omega)):=aj _;have hy:ys[j]?=some (ys[j]'(by omega)):=aj _;obtain ⟨u,hu',ru⟩:=r1.get hx;obtain ⟨v,hv',rv⟩:=r2.get hy;have eu:us[j]=u:=(aC.mp hu').2;have ev:vs[j]=v:=(aC.mp hv').2;have z:=rec _ _ _ (he j _ _ hx hy) u v ru rv;simpa [eu,ev] using z)
  rw [aB,<- l1] at k;exact k
 ·obtain ⟨us,r1,i1⟩:=fi ok h1.1;obtain ⟨vs,r2,i2⟩:=fi ok h1.2;have l1:=r1.length;have l2:=r2.length;have k:=RcAt.tuples (A:=A) (e:=e) i1 i2 hu (fun j a b=>by
   have ja:j < us.length:=by simpa using a
   have jb:j < vs.length:=by simpa using b
   have hx:xs[j]?=some (xs[j]'(by omega)):=aj _;have hy:ys[j]?=some (ys[j]'(by omega)):=aj _;obtain ⟨u,hu',ru⟩:=r1.get hx;obtain ⟨v,hv',rv⟩:=r2.get hy;have eu:us[j]=u:=(aC.mp hu').2;have ev:vs[j]=v:=(aC.mp hv').2;have z:=rec _ _ _ (he j _ _ hx hy) u v ru rv;simpa [eu,ev] using z)
  have es:(us.toArray.size == vs.toArray.size)=true:=by
   rw [aB,aB,<- l1,<- l2,hl];exact beq_self_eq_true _
  rw [es,Mh] at k;have em:min us.toArray.size vs.toArray.size=xs.length:=by
   rw [aB,aB];omega
  first
   |(rw [em] at k; exact k)
   |(rw [aB,<- l1] at k; exact k)
theorem AN (ok:HOk P w H s.heap):∀ {n:Nat} {A:bZ} {x y:V} {u v:af} {b:Bool},A.units + n < d8->BEm H n x y b->RelV x u->RelV y v->EqAt A s u v b
 | 0,A,x,y,u,v,b,hu,h,ru,rv=>Gs ok (by omega) h ru rv
 | n + 1,A,x,y,u,v,b,hu,h,ru,rv=>by
  rcases id h with h' | ⟨p,q,xs,ys,rfl,rfl,h'⟩
  ·exact Gs ok (by omega) h' ru rv
  ·cases ru
   cases rv
   by_cases e:p=q
   ·subst e;rw [BEm.self h];exact EqAt.same _
   ·exact EqAt.of_refs e (Gu ok (by omega) (fun x y b z u v ru rv=>AN ok (by show A.units + 1 + n < d8; omega) z ru rv) h')
end
section
variable {X:Cx}
theorem AO (hu:X.A.units + 50 < d8):OpR X (dZ .Eq) (fun x y H Q=>∃ n p q b,n<=20/\x=.ref p/\y=.ref q/\BEm H n x y b/\Q (.bl b) H):=by
 intro pins s σ H x y v u Q I rx ry h;obtain ⟨n,p,q,b,hn,rfl,rfl,d,k⟩:=h
 cases rx
 cases ry;have fin:EP X pins σ Q (.bool b) s:=⟨.bl b,H,I,rfl,k⟩;have no:BSm H (.ref p) (.ref q) b->False:=fun z=>by
  rcases z with (⟨_,_,e,_⟩ | ⟨_,_,e,_⟩) | ⟨_,⟨_,_,_,e,_⟩ | ⟨_,_,_,_,e,_⟩⟩ <;> cases e
 cases n with
 | zero=>exact (no d).elim
 | succ n =>
  rcases d with d | ⟨p',q',xs,ys,e1,e2,d⟩
  ·exact (no d).elim
  ·cases e1
   cases e2;exact Gu I.hok (by omega) (fun x y b z u v ru rv=>AN I.hok (by show X.A.units + 1 + n < d8; omega) z ru rv) d X.prog X.w _ _ fin
end
end L2
namespace My
open PySem L2
def BqD (H:Hp) (n:Nat) (v v':V) (p:Prop):Prop:=∃ b,BEm H n v v' b/\(b=true↔p)
section
variable {H:Hp} {n:Nat}
theorem BqD.iff {v v':V} {p q:Prop} (h:BqD H n v v' p) (e:p↔q):BqD H n v v' q:=by
 obtain ⟨b,h1,h2⟩:=h;exact ⟨b,h1,h2.trans e⟩
theorem B5 {v v':V} {b:Bool} {p:Prop} (h:BSm H v v' b) (e:b=true↔p):BqD H n v v' p:=by
 cases n with
 | zero=>exact ⟨b,h,e⟩
 | succ n=>exact ⟨b,.inl h,e⟩
theorem og (i j:Int):BqD H n (.int i) (.int j) (i=j):=B5 (.inl (.inl ⟨i,j,rfl,rfl,rfl⟩)) decide_eq_true_iff
theorem tH (i j:Str):BqD H n (.str i) (.str j) (i=j):=B5 (.inl (.inr ⟨i,j,rfl,rfl,rfl⟩)) decide_eq_true_iff
theorem bq_il {i:Int} {l:aa} {xs:List V} (h:H l=some (.lst xs)):BqD H n (.int i) (.ref l) False:=B5 (.inr ⟨rfl,.inl ⟨i,l,xs,rfl,rfl,h⟩⟩) (by simp)
theorem bq_li {i:Int} {l:aa} {xs:List V} (h:H l=some (.lst xs)):BqD H n (.ref l) (.int i) False:=B5 (.inr ⟨rfl,.inr ⟨i,l,xs,rfl,rfl,h⟩⟩) (by simp)
theorem AQ {p q:aa} {xs ys:List V} {P:Nat->Prop} (h:(H p=some (.lst xs)/\H q=some (.lst ys))\/(H p=some (.tup xs)/\H q=some (.tup ys))) (l:xs.length=ys.length) (f:∀ (i:Nat) x y,xs[i]?=some x->ys[i]?=some y->BqD H n x y (P i)):BqD H (n + 1) (.ref p) (.ref q) (∀ i,i < xs.length->P i):=by
 have f':∀ i:Nat,∃ b:Bool,∀ (h:i < xs.length),BEm H n xs[i] (ys[i]'(by omega)) b/\(b=true↔P i):=fun i=>by
  by_cases c:i < xs.length
  ·obtain ⟨b,h1,h2⟩:=f i _ _ (aj c) (aj (by omega));exact ⟨b,fun _=>⟨h1,h2⟩⟩
  ·exact ⟨true,fun z=>absurd z c⟩
 refine ⟨(ig xs.length).all fun i=>AR (f' i),.inr ⟨p,q,xs,ys,rfl,rfl,.inr ⟨h,l,fun i=>AR (f' i),fun i x y hx hy=>?_,rfl⟩⟩,?_⟩
 ·obtain ⟨il,rfl⟩:=aC.mp hx;obtain ⟨il',rfl⟩:=aC.mp hy;exact (oh (f' i) il).1
 ·rw [oB]
  constructor
  ·exact fun z i hi=>(oh (f' i) hi).2.mp (z i (iT.mpr hi))
  ·exact fun z i hi=>(oh (f' i) (iT.mp hi)).2.mpr (z i (iT.mp hi))
theorem Jj {p q:aa} {xs ys:List V} (h:H p=some (.lst xs)) (h':H q=some (.lst ys)) (l:xs.length≠ys.length):BqD H (n + 1) (.ref p) (.ref q) False:=⟨false,.inr ⟨p,q,xs,ys,rfl,rfl,.inl ⟨h,h',l,rfl⟩⟩,by simp⟩
theorem qQ {α:Type} {R:V->α->Prop} {vs:List V} {xs:List α} (h:aI R vs xs):∀ {i:Nat} {v:V},vs[i]?=some v->∃ x,xs[i]?=some x/\R v x:=by
 induction h with
 | nil=>intro i v e; cases i <;> cases e
 | cons a _ ih =>
  intro i v e
  cases i with
  | zero=>cases e; exact ⟨_,rfl,a⟩
  | succ i=>exact ih e
theorem uM {α:Type} {R:V->α->Prop} {p q:aa} {vs vs':List V} {xs ys:List α} (h:H p=some (.lst vs)) (h':H q=some (.lst vs')) (a:aI R vs xs) (b:aI R vs' ys) (one:∀ (i:Nat) v v' x y,xs[i]?=some x->ys[i]?=some y->R v x->R v' y->BqD H n v v' (x=y)):BqD H (n + 1) (.ref p) (.ref q) (xs=ys):=by
 have la:=aX a;have lb:=aX b
 by_cases l:vs.length=vs'.length
 ·refine (AQ (P:=fun i=>xs[i]?=ys[i]?) (.inl ⟨h,h'⟩) l fun i v v' hv hv'=>?_).iff ?_
  ·obtain ⟨x,hx,rx⟩:=qQ a hv;obtain ⟨y,hy,ry⟩:=qQ b hv';refine (one i v v' x y hx hy rx ry).iff ?_;rw [hx,hy];simp
  ·constructor
   ·intro z;refine jN fun i=>?_
    by_cases c:i < vs.length
    ·exact z i c
    ·rw [cT (by omega),cT (by omega)]
   ·rintro rfl i _;rfl
 ·refine (Jj h h' l).iff ⟨fun z=>z.elim,fun z=>l ?_⟩;rw [la,lb,z]
theorem tI {p q:aa} {xs ys:List V} {ps:List Prop} (h:H p=some (.tup xs)) (h':H q=some (.tup ys)) (f:xs.length=ys.length/\xs.length=ps.length/\∀ (i:Nat) x y r,xs[i]?=some x->ys[i]?=some y->ps[i]?=some r->BqD H n x y r):BqD H (n + 1) (.ref p) (.ref q) (∀ r∈ps,r):=by
 obtain ⟨l,lp,f⟩:=f;refine (AQ (P:=fun i=>∀ r,ps[i]?=some r->r) (.inr ⟨h,h'⟩) l fun i x y hx hy=>?_).iff ?_
 ·have il:=(aC.mp hx).1;have e:=aj (l:=ps) (i:=i) (by omega);refine (f i x y _ hx hy e).iff ?_;rw [e];exact ⟨fun z r hr=>by cases hr; exact z,fun z=>z _ rfl⟩
 ·constructor
  ·intro z r m;obtain ⟨i,il,rfl⟩:=List.mem_iff_getElem.mp m;exact z i (by omega) _ (aj il)
  ·exact fun z i _ r hr=>z r (bX hr)
end
theorem Dk {p:Prop} {ps:List Prop}:(∀ r∈p :: ps,r)↔(p/\∀ r∈ps,r):=List.forall_mem_cons
theorem Dl:(∀ r∈([]:List Prop),r)↔True:=⟨fun _=>trivial,fun _ r h=>by cases h⟩
section
variable {H:Hp}
theorem yh {p q:aa}:∀ {n:Nat} {as bs:List Int},H p=some (.tup (as.map V.int))->H q=some (.tup (bs.map V.int))->as.length=bs.length->BqD H (n + 1) (.ref p) (.ref q) (as=bs):=fun {n as bs} h h' l=>by
 refine (AQ (P:=fun i=>as[i]?=bs[i]?) (.inr ⟨h,h'⟩) (by rw [ai,ai]; exact l) fun i x y hx hy=>?_).iff ?_
 ·rw [bS] at hx hy;obtain ⟨a,ha,rfl⟩:=oy.mp hx;obtain ⟨b,hb,rfl⟩:=oy.mp hy;refine (og a b).iff ?_;rw [ha,hb];simp
 ·rw [ai]
  constructor
  ·intro z;refine jN fun i=>?_
   by_cases c:i < as.length
   ·exact z i c
   ·rw [cT (by omega),cT (by omega)]
  ·rintro rfl i _;rfl
theorem Gv {p q:aa} {n:Nat} {as bs:List Int} (h:H p=some (.lst (as.map V.int))) (h':H q=some (.lst (bs.map V.int))):BqD H (n + 1) (.ref p) (.ref q) (as=bs):=by
 have pr:∀ cs:List Int,aI (fun v (x:Int)=>v=V.int x) (cs.map V.int) cs:=fun cs=>by
  induction cs with
  | nil=>exact .nil
  | cons a cs ih=>exact .cons rfl ih
 refine uM h h' (pr as) (pr bs) fun i v v' x y _ _ e1 e2=>?_;subst e1 e2;exact og x y
theorem Gw {e e':Ev}:e=e'↔([e.t,e.r,e.fr,e.c]=[e'.t,e'.r,e'.fr,e'.c]/\e.to=e'.to/\e.sg=e'.sg/\e.a=e'.a/\e.b=e'.b):=by
 cases e
 cases e';simp
 constructor
 ·rintro ⟨rfl,rfl,rfl,rfl,rfl,rfl,rfl,rfl⟩;simp
 ·rintro ⟨⟨rfl,rfl,rfl,rfl⟩,rfl,rfl,rfl,rfl⟩;simp
theorem bq_ev {n:Nat} {v v':V} {e e':Ev} (h:gK H v e) (h':gK H v' e'):BqD H (n + 2) v v' (e=e'):=by
 obtain ⟨t,k,rfl,h1,h2⟩:=h;obtain ⟨t',k',rfl,h1',h2'⟩:=h';refine (tI (ps:=[[e.t,e.r,e.fr,e.c]=[e'.t,e'.r,e'.fr,e'.c],e.to=e'.to,e.sg=e'.sg,e.a=e'.a,e.b=e'.b]) h1 h1' ⟨rfl,rfl,fun i x y r hx hy hr=>?_⟩).iff ?_
 ·match i,hx,hy,hr with
  | 0,hx,hy,hr=>cases hx; cases hy; cases hr; exact yh (as:=[e.t,e.r,e.fr,e.c]) (bs:=[e'.t,e'.r,e'.fr,e'.c]) h2 h2' rfl
  | 1,hx,hy,hr=>cases hx; cases hy; cases hr; exact og _ _
  | 2,hx,hy,hr=>cases hx; cases hy; cases hr; exact tH _ _
  | 3,hx,hy,hr=>cases hx; cases hy; cases hr; exact og _ _
  | 4,hx,hy,hr=>cases hx; cases hy; cases hr; exact og _ _
  | _ + 5,hx,hy,hr=>cases hx
 ·rw [Gw];simp only [Dk,Dl,and_true,and_assoc]
theorem bq_wb {n:Nat} {v v':V} {p p':Str×Int} (h:vm H v p) (h':vm H v' p'):BqD H (n + 1) v v' (p=p'):=by
 obtain ⟨t,rfl,h1⟩:=h;obtain ⟨t',rfl,h1'⟩:=h';refine (tI (ps:=[p.1=p'.1,p.2=p'.2]) h1 h1' ⟨rfl,rfl,fun i x y r hx hy hr=>?_⟩).iff ?_
 ·match i,hx,hy,hr with
  | 0,hx,hy,hr=>cases hx; cases hy; cases hr; exact tH _ _
  | 1,hx,hy,hr=>cases hx; cases hy; cases hr; exact og _ _
  | _ + 2,hx,hy,hr=>cases hx
 ·simp only [Dk,Dl,and_true,lD]
def WqD (H:Hp) (v:V) (p:Str×List Int):Prop:=∃ t l,v=.ref t/\H t=some (.tup [.str p.1,.ref l])/\H l=some (.lst (p.2.map V.int))
theorem bq_wq {n:Nat} {v v':V} {p p':Str×List Int} (h:WqD H v p) (h':WqD H v' p'):BqD H (n + 2) v v' (p=p'):=by
 obtain ⟨t,l,rfl,h1,h2⟩:=h;obtain ⟨t',l',rfl,h1',h2'⟩:=h';refine (tI (ps:=[p.1=p'.1,p.2=p'.2]) h1 h1' ⟨rfl,rfl,fun i x y r hx hy hr=>?_⟩).iff ?_
 ·match i,hx,hy,hr with
  | 0,hx,hy,hr=>cases hx; cases hy; cases hr; exact tH _ _
  | 1,hx,hy,hr=>cases hx; cases hy; cases hr; exact Gv h2 h2'
  | _ + 2,hx,hy,hr=>cases hx
 ·simp only [Dk,Dl,and_true,lD]
theorem wq_d {ws:List V} {qa:List (Str×aa)} {qs:List (Str×List Int)} (a:aI (Ax H) ws qa) (b:gA H qa qs):aI (WqD H) ws qs:=by
 unfold gA at b
 induction a generalizing qs with
 | nil=>cases b; exact .nil
 | cons x _ ih =>
  cases b with
  | cons y b =>
   obtain ⟨t,e,h⟩:=x;refine .cons ⟨t,_,e,?_,y.2⟩ (ih b);rw [<- y.1];exact h
def WrD (H:Hp) (v:V):Sum (Str×Int) (Str×List Int)->Prop
 | .inl p=>vm H v p
 | .inr p=>WqD H v p
theorem bq_wr {n:Nat} {v v':V}:∀ {x y:Sum (Str×Int) (Str×List Int)},WrD H v x->WrD H v' y->BqD H (n + 2) v v' (x=y)
 | .inl p,.inl p',h,h'=>(bq_wb h h').iff (by simp)
 | .inr p,.inr p',h,h'=>(bq_wq h h').iff (by simp)
 | .inl p,.inr p',⟨t,e,h1⟩,⟨t',l',e',h1',h2'⟩=>by
  subst e e';refine (tI (ps:=[p.1=p'.1,False]) h1 h1' ⟨rfl,rfl,fun i x y r hx hy hr=>?_⟩).iff (by simp only [Dk,Dl,and_true,and_false,reduceCtorEq])
  match i,hx,hy,hr with
  | 0,hx,hy,hr=>cases hx; cases hy; cases hr; exact tH _ _
  | 1,hx,hy,hr=>cases hx; cases hy; cases hr; exact bq_il h2'
  | _ + 2,hx,hy,hr=>cases hx
 | .inr p,.inl p',⟨t,l,e,h1,h2⟩,⟨t',e',h1'⟩=>by
  subst e e';refine (tI (ps:=[p.1=p'.1,False]) h1 h1' ⟨rfl,rfl,fun i x y r hx hy hr=>?_⟩).iff (by simp only [Dk,Dl,and_true,and_false,reduceCtorEq])
  match i,hx,hy,hr with
  | 0,hx,hy,hr=>cases hx; cases hy; cases hr; exact tH _ _
  | 1,hx,hy,hr=>cases hx; cases hy; cases hr; exact bq_li h2
  | _ + 2,hx,hy,hr=>cases hx
theorem wr_d {ws1 ws2:List V} {bs:List (Str×Int)} {qs:List (Str×List Int)} (a:aI (vm H) ws1 bs) (b:aI (WqD H) ws2 qs):aI (WrD H) (ws1++ws2) (bs.map Sum.inl++qs.map Sum.inr):=by
 induction a with
 | nil =>
  show aI (WrD H) ws2 (qs.map Sum.inr)
  induction b with
  | nil=>exact .nil
  | cons x _ ih=>exact .cons x ih
 | cons x _ ih=>exact .cons x ih
theorem Gx:∀ {bs bs':List (Str×Int)} {qs qs':List (Str×List Int)},bs.map Sum.inl++qs.map Sum.inr=bs'.map Sum.inl++qs'.map Sum.inr->bs=bs'/\qs=qs'
 | [],[],qs,qs',h=>⟨rfl,by
   have h:qs.map Sum.inr=qs'.map (Sum.inr (α:=Str×Int)):=h;exact (sf fun a b z=>iB z).mp h⟩
 | a :: bs,b :: bs',qs,qs',h=>by
  obtain ⟨h1,h2⟩:=dY h;obtain ⟨e1,e2⟩:=Gx h2;exact ⟨by rw [tL h1,e1],e2⟩
 | [],b :: bs',qs,qs',h=>by
  cases qs with
  | nil=>cases h
  | cons q qs=>cases h
 | a :: bs,[],qs,qs',h=>by
  cases qs' with
  | nil=>cases h
  | cons q qs=>cases h
theorem Jk {r r':Rec}:r=r'↔(r.h=r'.h/\(r.wb=r'.wb/\r.wq=r'.wq)/\r.out=r'.out):=by
 cases r
 cases r';simp only [Rec.mk.injEq,and_assoc]
end
abbrev Rk:Type:=Ev×List (Sum (Str×Int) (Str×List Int))×List Ev
def rS (F:Hp) (v:V) (q:Rk):Prop:=∃ (rc k wl od:aa) (ws vs:List V),v=.ref rc/\F rc=some (.tup [.ref k,.int q.1.to,.str q.1.sg,.int q.1.a,.int q.1.b,.ref wl,.ref od])/\F k=some (zo q.1)/\F wl=some (.lst ws)/\aI (WrD F) ws q.2.1/\F od=some (.lst vs)/\aI (gK F) vs q.2.2
def iJ (r:Rec):Rk:=(r.h,r.wb.map Sum.inl++r.wq.map Sum.inr,r.out)
theorem RcIn.rk {F:Hp} {v:V} {r:Rec} (h:RcIn F v r):rS F v (iJ r):=by
 obtain ⟨rc,k,wl,od,ws1,ws2,vs,qa,e,h1,h2,h3,h4,h5,h6,h7,h8⟩:=h;exact ⟨rc,k,wl,od,ws1++ws2,vs,e,h1,h2,h3,wr_d h4 (wq_d h5 h6),h7,h8⟩
theorem Mo {r r':Rec} (h:iJ r=iJ r'):r=r':=by
 obtain ⟨a,b⟩:=lD.mp h;obtain ⟨b,c⟩:=lD.mp b;exact Jk.mpr ⟨a,Gx b,c⟩
theorem WrD.same {H G:Hp} (s:bj H G) {v:V}:∀ {x:Sum (Str×Int) (Str×List Int)},WrD H v x->WrD G v x
 | .inl p,⟨t,e,h⟩=>⟨t,e,s _ _ h⟩
 | .inr p,⟨t,l,e,h1,h2⟩=>⟨t,l,e,s _ _ h1,s _ _ h2⟩
theorem rS.same {F G:Hp} (s:bj F G) {v:V} {q:Rk} (h:rS F v q):rS G v q:=by
 obtain ⟨rc,k,wl,od,ws,vs,e,h1,h2,h3,h4,h5,h6⟩:=h;exact ⟨rc,k,wl,od,ws,vs,e,s _ _ h1,s _ _ h2,s _ _ h3,Paired.mono (fun _ _ z=>WrD.same s z) h4,s _ _ h5,Paired.mono (fun _ _ z=>z.same s) h6⟩
theorem Kg {H:Hp} {n:Nat} {v v':V} {r r':Rk} (h:rS H v r) (h':rS H v' r'):BqD H (n + 4) v v' (r=r'):=by
 obtain ⟨rc,k,wl,od,ws,vs,rfl,h1,h2,h3,h4,h7,h8⟩:=h;obtain ⟨rc',k',wl',od',ws',vs',rfl,h1',h2',h3',h4',h7',h8'⟩:=h';refine (tI (ps:=[[r.1.t,r.1.r,r.1.fr,r.1.c]=[r'.1.t,r'.1.r,r'.1.fr,r'.1.c],r.1.to=r'.1.to,r.1.sg=r'.1.sg,r.1.a=r'.1.a,r.1.b=r'.1.b,r.2.1=r'.2.1,r.2.2=r'.2.2]) h1 h1' ⟨rfl,rfl,fun i x y q hx hy hr=>?_⟩).iff ?_
 ·match i,hx,hy,hr with
  | 0,hx,hy,hr=>cases hx; cases hy; cases hr; exact yh (as:=[r.1.t,r.1.r,r.1.fr,r.1.c]) (bs:=[r'.1.t,r'.1.r,r'.1.fr,r'.1.c]) h2 h2' rfl
  | 1,hx,hy,hr=>cases hx; cases hy; cases hr; exact og _ _
  | 2,hx,hy,hr=>cases hx; cases hy; cases hr; exact tH _ _
  | 3,hx,hy,hr=>cases hx; cases hy; cases hr; exact og _ _
  | 4,hx,hy,hr=>cases hx; cases hy; cases hr; exact og _ _
  | 5,hx,hy,hr=>cases hx; cases hy; cases hr; exact uM h3 h3' h4 h4' fun _ _ _ _ _ _ _ a b=>bq_wr a b
  | 6,hx,hy,hr=>cases hx; cases hy; cases hr; exact uM h7 h7' h8 h8' fun _ _ _ _ _ _ _ a b=>bq_ev a b
  | _ + 7,hx,hy,hr=>cases hx
 ·rw [lD,lD,Gw];simp only [Dk,Dl,and_true,and_assoc]
def Rks (H:Hp) (a:aa) (rs:List Rk):Prop:=∃ xs,H a=some (.lst xs)/\aI (rS H) xs rs
theorem AS {H:Hp} {a b:aa} {rs rs':List Rk} (h:Rks H a rs) (h':Rks H b rs'):BqD H 5 (.ref a) (.ref b) (rs=rs'):=by
 obtain ⟨xs,h1,h2⟩:=h;obtain ⟨ys,h3,h4⟩:=h';exact uM h1 h3 h2 h4 fun i _ _ x y hx hy r r'=>Kg r r'
theorem Rcs.rk {H:Hp} {a:aa} {rs:List Rec} (h:Rcs H a rs):Rks H a (rs.map iJ):=by
 obtain ⟨xs,h1,h2⟩:=h;refine ⟨xs,h1,?_⟩;have:∀ {ys:List V} {qs:List Rec},aI (RcIn H) ys qs->aI (rS H) ys (qs.map iJ):=fun p=>by
  induction p with
  | nil=>exact .nil
  | cons x _ ih=>exact .cons (RcIn.rk x) ih
 exact this h2
theorem Rks.same {H G:Hp} (s:bj H G) {a:aa} {rs:List Rk} (h:Rks H a rs):Rks G a rs:=by
 obtain ⟨xs,h1,h2⟩:=h;exact ⟨xs,s _ _ h1,Paired.mono (fun _ _ z=>z.same s) h2⟩
theorem Jl {r r':List Rec} (h:r.map iJ=r'.map iJ):r=r':=(sf fun _ _ z=>Mo z).mp h
section
variable {X:Cx}
theorem Jm:OpR X (dZ .IsNot) (fun x y H Q=>x=.bl true/\y=.bl true/\Q (.bl false) H):=by
 intro pins s σ H x y v u Q I rx ry h;obtain ⟨rfl,rfl,q⟩:=h
 cases rx
 cases ry;exact wpAny_isNot_self rfl (eA I q rfl)
end
structure Rn (CM:aa) (Ms:List MD) (es:List Ev) (H:Hp) (m sgl:aa):Prop where
 mo:tE CM Ms H m
 lm:Ms.length < 1000
 sg:∃ svs,H sgl=some (.lst svs)/\aI (vt H) svs es
 le:es.length < 64
 ev:∀ e∈es,zk Ms.length e
theorem Rn.same {CM:aa} {Ms:List MD} {es:List Ev} {H G:Hp} {m sgl:aa} (s:bj H G) (h:Rn CM Ms es H m sgl):Rn CM Ms es G m sgl:=by
 obtain ⟨svs,h1,h2⟩:=h.sg;exact ⟨h.mo.same s,h.lm,⟨svs,s _ _ h1,Paired.mono (fun _ _ z=>z.same s) h2⟩,h.le,h.ev⟩
theorem pl_h {CM CS CB:aa} {Ms:List MD} {es:List Ev} {H:Hp} {m sgl:aa} {k:Int} {Q:VK} {E:XK} (h:Rn CM Ms es H m sgl) (hk:k<=1000) (q:∀ (G:Hp) (b dx rl sl et:aa) (rs:List Rec) (e:End),bj H G->Bk Ms es k rs e->Hid ⟨[],H⟩ G b=some (.ins CB dx (AB (.ref rl) (.ref et) (.ref sl)))->Rcs (Hid ⟨[],H⟩ G) rl rs->vY (Hid ⟨[],H⟩ G) et (tG e)->Q (.ref b) G):t8 CM CS CB [.ref m,.ref sgl,.int k] H Q E:=by
 obtain ⟨svs,h1,h2⟩:=h.sg;refine ⟨Ms,m,sgl,svs,es,k,rfl,h.mo,h.lm,h1,h2,h.le,h.ev,hk,fun G b i e s st bk=>?_⟩;obtain ⟨dx,rl,sl,en,rvs,ss,g1,g2,g3,g4,_⟩:=bk.ex;obtain ⟨et,rfl,g5⟩:=Mj g4;exact q G b dx rl sl et _ e s ⟨i,st,rfl⟩ g1 ⟨rvs,g2,g3⟩ g5
theorem pl_i {CM CS CB:aa} {Ms:List MD} {es:List Ev} {H:Hp} {m sgl:aa} {k:Int} {Q:VK} {E:XK} (h:Rn CM Ms es H m sgl) (hk:k<=1000) (q:∀ (G:Hp) (b dx rl sl et:aa) (rs:List Rec) (e:End),bj H G->Bk Ms es k rs e->G b=some (.ins CB dx (AB (.ref rl) (.ref et) (.ref sl)))->Rcs G rl rs->vY G et (tG e)->Q (.ref b) G):t8 CM CS CB [.ref m,.ref sgl,.int k] H Q E:=pl_h h hk fun G b dx rl sl et rs e s bk g1 g2 g3=>q G b dx rl sl et rs e s bk (jf _ _ g1) (g2.same jf) (g3.same jf)
def Gy:Ed:=[.inl "cut"]
section
variable {P:aL} {w:bN} {K:ae} {mg:Str->Option af} {base:cF} {f fPl fIs fDu CM CS CB:aa} {fd fdPl fdIs fdDu:cw}
seal PS PSs PE PA PT PW PI PG PGs PC
inductive Kh (CM:aa) (vs:List V) (H:Hp) (Q:VK) (_e:XK):Prop where
 | mk (Ms:List MD) (es:List Ev) (m sgl rl et:aa) (rs:List Rk) (E:Ed) (_:vs=[.ref m,.ref sgl,.ref rl,.ref et]) (_:Rn CM Ms es H m sgl) (_:Rks H rl rs) (_:rs.length<=900) (_:vY H et E) (_:∀ (G:Hp) (r:List Rec) (e:End) (b:Bool),bj H G->Bk Ms es (if E=Gy then (rs.length:Int) else rs.length + 1) r e->(b=true↔(r.map iJ=rs/\tG e=E))->Q (.bl b) G):Kh CM vs H Q _e
def spIs (CM:aa):Sp:=fun vs H Q _e=>Kh CM vs H Q _e
abbrev nIs:List Str:=["model","signs","records","ending","most","book"]
abbrev pIs:List Str:=["model","signs","records","ending"]
theorem Mp:cv nIs pIs (aQ p0):={}
theorem ok_is (D:Df K mg "is_book" p0 pIs f fd) (DPl:Df K mg "plain" rF ["model","signs","most"] fPl fdPl) (GPl:cm P w K mg base CX0 40 fPl fdPl ["model","signs","most"] (t8 CM CS CB)) (TB:BkT K mg CB) (B:Bl mg):cm P w K mg base CX0 41 f fd pIs (spIs CM):=by
 refine D.F.ok Mp (fun vs H Q E h=>?_) (fun cdv A outer s H vs Q E hr h=>?_)
 ·obtain ⟨Ms,es,m,sgl,rl,et,rs,Ed,rfl,_⟩:=h;rfl
 obtain ⟨Ms,es,m,sgl,rl,et,rs,Ed,rfl,R,hrl,l9,hE,k⟩:=h;have h50:=ET hr;have r40:d5 40 _:=hr;have mo:=R.mo.ok;refine ⟨_,ak (aZ (i:=4) Mp.nd rfl (Or.inl rfl) (q8 (bM (Gr h50) (pv 3) (cR (dR cA ao)) (cj _)) (dB (eR K (by rfl)) (by rfl) B.len cG (aS (pv 2) ao)) (cC ff (dB (eR K (by rfl)) (by rfl) B.len cG (aS (pv 2) ao)) aw)))
  (ak (aZ (i:=5) Mp.nd rfl (Or.inl rfl) (aO GPl r40 (by rfl) DPl.m DPl.F.kp DPl.b .nil bY (aS (pv 0) (aS (pv 1) (aS (pv 4) ao)))))
  (aF (bQ (Kw (nv (AO h50) (jF K (by rfl) (pv 5) (by rfl)) (pv 2) (cj _)) (Kv (nv (Gr h50) (jF K (by rfl) (pv 5) (by rfl)) (pv 3) (cj _))))))),?_⟩
 obtain ⟨xs,hx,px⟩:=id hrl;have lx:=aX px;refine bR (cI ?_);refine ⟨_,rfl,Az,fun t ht=>?_⟩;have st_:=aA ht (.tup [.str "cut"]);refine ⟨et,t,Ed,Gy,rfl,rfl,hE.same st_,⟨_,ag,.cons rfl .nil⟩,_,rfl,?_⟩
 by_cases c:Ed=Gy
 ·rw [decide_eq_true c];refine iF ?_;refine ⟨_,rfl,rl,xs,rfl,.inl (SqL.of (st_ _ _ hx)),?_⟩;refine aU ?_;dsimp only;refine bR (cI ?_);refine ⟨_,rfl,_,rfl,_,rfl,?_⟩;refine rM ?_;show t8 CM CS CB [V.ref m,V.ref sgl,V.int (xs.length:Int)] _ _ _;refine pl_i (R.same st_) (by omega) fun G b dx rl' sl et' r e sG bk g1 g2 g3=>?_;refine aU ?_;dsimp only;have sG':=st_.trans sG;rw [lx] at bk;refine fY ⟨_,rfl,b,CB,dx,_,_,rfl,g1,TB.cl,TB.nR,LA _ _ _,_,rfl,?_⟩;obtain ⟨bb,hb,eb⟩:=AS g2.rk (hrl.same sG');refine ⟨5,rl',rl,bb,by decide,rfl,rfl,hb,_,rfl,?_⟩;have kk:=fun b=>k G r e b sG' (by rw [if_pos c]; exact bk)
  cases bb with
  | false=>exact gi (kk false ⟨(fun z=>by cases z),fun z=>eb.mpr z.1⟩)
  | true=>exact iF ⟨_,rfl,b,CB,dx,_,_,rfl,g1,TB.cl,TB.nE,AC _ _ _,_,rfl,et',et,_,_,rfl,rfl,g3,hE.same sG',kk _ (by rw [decide_eq_true_iff]; exact ⟨fun z=>⟨eb.mp rfl,z⟩,fun z=>z.2⟩)⟩
 ·rw [decide_eq_false c];refine gi ?_;refine ⟨_,rfl,rl,xs,rfl,.inl (SqL.of (st_ _ _ hx)),_,_,rfl,rfl,?_⟩;refine aU ?_;dsimp only;refine bR (cI ?_);refine ⟨_,rfl,_,rfl,_,rfl,?_⟩;refine rM ?_;show t8 CM CS CB [V.ref m,V.ref sgl,V.int ((xs.length:Int) + 1)] _ _ _;refine pl_i (R.same st_) (by omega) fun G b dx rl' sl et' r e sG bk g1 g2 g3=>?_;refine aU ?_;dsimp only;have sG':=st_.trans sG;rw [lx] at bk;refine fY ⟨_,rfl,b,CB,dx,_,_,rfl,g1,TB.cl,TB.nR,LA _ _ _,_,rfl,?_⟩;obtain ⟨bb,hb,eb⟩:=AS g2.rk (hrl.same sG');refine ⟨5,rl',rl,bb,by decide,rfl,rfl,hb,_,rfl,?_⟩;have kk:=fun b=>k G r e b sG' (by rw [if_neg c]; exact bk)
  cases bb with
  | false=>exact gi (kk false ⟨(fun z=>by cases z),fun z=>eb.mpr z.1⟩)
  | true=>exact iF ⟨_,rfl,b,CB,dx,_,_,rfl,g1,TB.cl,TB.nE,AC _ _ _,_,rfl,et',et,_,_,rfl,rfl,g3,hE.same sG',kk _ (by rw [decide_eq_true_iff]; exact ⟨fun z=>⟨eb.mp rfl,z⟩,fun z=>z.2⟩)⟩
end
theorem Gz {α:Type} {x:Option α} (h:∀ o,x≠some o):x=none:=by
 cases x with
 | none=>rfl
 | some o=>exact absurd rfl (h o)
theorem qe {xs:List V} {k:Nat} (h:k<=xs.length):eT xs none (some (k:Int))=xs.take k:=by
 unfold eT;rw [HT.sIx_nat,HT.sIx_none,lO,Nat.sub_zero,iy h]
theorem m8 {xs:List V} {k:Nat} (h:k<=xs.length):eT xs (some (k:Int)) none=xs.drop k:=by
 unfold eT;rw [HT.sIx_nat,HT.sIx_none,iy h,oO (by rw [cN]; exact aE _)]
section
variable {P:aL} {w:bN} {K:ae} {mg:Str->Option af} {base:cF} {f fT:aa} {fd fdT:cw}
seal PS PSs PE PA PT PW PI PG PGs PC
inductive GG (vs:List V) (H:Hp) (Q:VK) (_e:XK):Prop where
 | mk (a b:aa) (k:Nat) (xs ys:List V) (_:vs=[.ref a,.int k,.ref b]) (_:H a=some (.lst xs)) (_:H b=some (.lst ys)) (_:k < xs.length) (_:xs.length<=9000) (_:ys.length<=9000) (_:∀ c G,bj H G->H c=none->G c=some (.lst (xs.take k++ys++xs.drop (k + 1)))->Q (.ref c) G):GG vs H Q _e
def GH:Sp:=fun vs H Q _e=>GG vs H Q _e
abbrev nRow:List Str:=["_law_row_here","_law_at","_law_one"]
abbrev AU:List Str:=["_law_row_here","_law_at","_law_one"]
theorem scRow:cv nRow AU (aQ mT):={}
theorem GJ (D:Df K mg "_law_row" mT AU f fd):cm P w K mg base CX0 1 f fd AU GH:=by
 refine D.F.ok scRow (fun vs H Q E h=>?_) (fun cdv A outer s H vs Q E hr h=>?_)
 ·obtain ⟨a,b,k,xs,ys,rfl,_⟩:=h;rfl
 obtain ⟨a,b,k,xs,ys,rfl,ha,hb,kl,lx,ly,q⟩:=h;refine ⟨_,aF (bQ (cC kS (cC kS (eI iu (pv 0) fX (fg (pv 1))) (pv 2)) (eI iu (pv 0) (fg (cC ff (pv 1) aw)) fX))),?_⟩;have big:100000 < au:=by decide
 have ec:=qe (xs:=xs) (k:=k) (by omega);have ed:eT xs (some ((k:Int) + 1)) none=xs.drop (k + 1):=by
  rw [show (k:Int) + 1=((k + 1:Nat):Int) by omega];exact m8 (by omega)
 refine fY ⟨_,rfl,_,rfl,_,rfl,a,_,rfl,SqL.of ha,fun e1 he1=>?_⟩;have u1:=aA he1 (.lst (eT xs none (some (k:Int))));refine ⟨_,rfl,e1,b,_,_,rfl,rfl,ag,u1 _ _ hb,by rw [ec,aT]; omega,fun e2 he2=>?_⟩;have u2:=u1.trans (aA he2 (.lst (eT xs none (some (k:Int))++ys)));refine ⟨_,rfl,_,rfl,_,_,rfl,rfl,_,rfl,a,_,rfl,SqL.of (u2 _ _ ha),fun e3 he3=>?_⟩;have u3:=aA he3 (.lst (eT xs (some ((k:Int) + 1)) none));refine ⟨e2,e3,_,_,rfl,rfl,u3 _ _ ag,ag,by rw [ec,ed,ax,aT,cN]; omega,fun e4 he4=>q e4 _ ((u2.trans u3).trans (aA he4 _)) (Gz fun o z=>by rw [(u2.trans u3) _ _ z] at he4; cases he4) ?_⟩;rw [ag,ec,ed]
end
end My
namespace L2
open PySem PySem.Spec PyProof.Rows
section
variable {X:Cx}
def Ki (K:ae):R2:=fun x y H Q=>∃ a b xs ys,x=.ref a/\y=.ref b/\SqT K H a xs/\SqT K H b ys/\xs.length + ys.length<=au /\
 (xs=[]->Q (.ref b) H)/\(xs≠[]->ys=[]->Q (.ref a) H)/\(xs≠[]->ys≠[]->∀ p,H p=none->Q (.ref p) (upd H p (.tup (xs++ys))))
theorem B6:OpR X (ij .Add) (Ki X.K):=by
 intro pins s σ H x y v u Q I rx ry h;obtain ⟨a,b,xs,ys,rfl,rfl,ha,hb,hz,q0,q1,q2⟩:=h
 by_cases hx:xs=[]
 ·cases rx
  cases ry;obtain ⟨its,r1,p1,_⟩:=I.tuple ha;obtain ⟨its2,r2,p2,_⟩:=I.tuple hb;obtain ⟨⟨cls,dd,data,sl⟩,ho,hc,n,hd⟩:=id p1;obtain ⟨⟨cls2,dd2,data2,sl2⟩,ho2,hc2,n2,hd2⟩:=id p2;simp only at hc hd hc2 hd2;subst hc hd hc2 hd2;exact Ep ⟨_,ho,rfl⟩ ⟨_,ho2,rfl⟩ xA Cq nG mH (lZ _ _)
   (tuple_addW0 a b its.toArray its2.toArray n n2 dd dd2 sl sl2 (by rw [r1.nil_iff.mpr hx]; rfl)) ⟨ho,ho2,⟨.ref b,H,I,rfl,q0 hx⟩⟩
 ·exact pX pins s σ H _ _ v u Q I rx ry ⟨a,b,xs,ys,rfl,rfl,ha,hb,hx,hz,q1 hx,q2 hx⟩
end
end L2
namespace My
open PySem L2
theorem GK {K:ae} {H:Hp} {a b:aa} {xs ys:List V} {Q:VK} (ha:H a=some (.tup xs)) (hb:H b=some (.tup ys)) (l:xs.length + ys.length<=1000) (k:∀ c G,bj H G->G c=some (.tup (xs++ys))->Q (.ref c) G):Ki K (.ref a) (.ref b) H Q:=by
 have big:=fq;refine ⟨a,b,xs,ys,rfl,rfl,SqT.of ha,SqT.of hb,by omega,fun e=>k b H (bj.refl _) ?_,fun _ e=>k a H (bj.refl _) ?_,fun _ _ p hp=>k p _ (aA hp _) ag⟩
 ·rw [e,kK];exact hb
 ·rw [e,dE];exact ha
section
variable {P:aL} {w:bN} {K:ae} {mg:Str->Option af} {base:cF} {f fT:aa} {fd fdT:cw}
seal PS PSs PE PA PT PW PI PG PGs PC
inductive Kj (vs:List V) (H:Hp) (Q:VK) (_e:XK):Prop where
 | mk (k p:aa) (as:List Int) (_:vs=[.ref k,.ref p]) (_:H k=some (.tup (as.map V.int))) (_:as.length=4) (_:dS H p) (_:∀ (c:aa) (bs:List Int) (G:Hp),dS G p->But p H G->G c=some (.tup (bs.map V.int))->bs.length=4->bs≠as->Q (.ref c) G):Kj vs H Q _e
def spKy:Sp:=fun vs H Q _e=>Kj vs H Q _e
abbrev nKy:List Str:=["_law_key","_law_purse_here","_law_at"]
abbrev pKy:List Str:=["_law_key","_law_purse_here"]
theorem scKy:cv nKy pKy (aQ jD):={}
theorem ok_ky (D:Df K mg "_law_bent_key" jD pKy f fd) (DT:Df K mg "_law_take" eO pT fT fdT) (B:Bl mg):cm P w K mg base CX0 2 f fd pKy spKy:=by
 have GT:cm P w K mg base CX0 1 fT fdT pT lA:=jY DT B;refine D.F.ok scKy (fun vs H Q E h=>?_) (fun cdv A outer s H vs Q E hr h=>?_)
 ·obtain ⟨k,p,as,rfl,_⟩:=h;rfl
 obtain ⟨k,p,as,rfl,hk,l4,pu,q⟩:=h;have r1:d5 1 _:=hr;refine ⟨_,ak (aZ (i:=2) scKy.nd rfl (Or.inl rfl) (aO GT r1 (by rfl) DT.m DT.F.kp DT.b .nil bY (aS (pv 1) (dR aw ao))))
  (aF (bQ (cC B6 (cC B6 (eI qH (pv 0) fX (fg (pv 2))) (cR (jL (cC kN (cC ff (bT cL (pv 0) (pv 2) (fun _ _=>rfl)) aw) (cC oR aw (aO GT r1 (by rfl) DT.m DT.F.kp DT.b .nil bY (aS (pv 1) (dR aw ao))))) ao))) (eI qH (pv 0) (fg (cC ff (pv 2) aw)) fX)))),?_⟩
 have big:=fq;have nk:k≠p:=fun z=>by
  obtain ⟨x,y,e⟩:=pu;rw [z,e] at hk
  cases hk
 refine bR (cI ⟨_,rfl,p,4,rfl,pu,by decide,by decide,fun m G1 m0 m4 pu1 b1=>aU ?_⟩);dsimp only;obtain ⟨j,rfl⟩:∃ j:Nat,m=j:=⟨m.toNat,by omega⟩;have jl:j < as.length:=by omega
 have hk1:=b1 _ _ hk nk;have lm:(as.map V.int).length=4:=by rw [ai]; exact l4
 have ec:=qe (xs:=as.map V.int) (k:=j) (by omega);have ed:eT (as.map V.int) (some ((j:Int) + 1)) none=(as.map V.int).drop (j + 1):=by
  rw [show (j:Int) + 1=((j + 1:Nat):Int) by omega];exact m8 (by omega)
 refine fY ⟨_,rfl,_,rfl,_,rfl,k,_,rfl,SqT.of hk1,fun z=>by
  rw [HT.sIx_nat,iy (by omega)] at z;omega,fun e1 he1=>?_⟩
 have u1:=aA he1 (.tup (eT (as.map V.int) none (some (j:Int))));have hk2:=u1 _ _ hk1;refine ⟨_,rfl,_,rfl,k,_,_,_,rfl,rfl,SqT.of hk2,gR (v:=.int as[j]) (by rw [bS,aj jl]; rfl),_,_,rfl,rfl,_,rfl,p,2,rfl,pu1.same u1,by decide,by decide,fun r G3 r0 r2 pu3 b3=>?_⟩;have hk3:=b3 _ _ hk2 nk;have h1:=b3 _ _ (show (upd G1 e1 (.tup (eT (as.map V.int) none (some (j:Int))))) e1=_ from ag) (jg pu1 he1);refine ⟨_,_,rfl,rfl,.inl ⟨by decide,by decide⟩,_,_,rfl,rfl,by show 1<=au; omega,fun e2 he2=>?_⟩;have u2:=aA he2 (.tup [.int (as[j] + 1 - 2 * r)]);refine GK (u2 _ _ h1) ag (by rw [ec,aT]; show _ + 1<=_; omega) fun e3 G4 s4 h3=>?_;have hk4:=s4 _ _ (u2 _ _ hk3);refine ⟨_,rfl,_,rfl,_,_,rfl,rfl,_,rfl,k,_,rfl,SqT.of hk4,fun z=>by
  rw [show (j:Int) + 1=((j + 1:Nat):Int) by omega,HT.sIx_nat,iy (by omega)] at z;omega,fun e4 he4=>?_⟩
 have u4:=aA he4 (.tup (eT (as.map V.int) (some ((j:Int) + 1)) none));refine GK (u4 _ _ h3) ag (by rw [ec,ed,ax,aT,cN]; show _ + 1 + _<=_; omega) fun e5 G6 s6 h5=>?_;have s36:=((u2.trans s4).trans u4).trans s6;rw [ec,ed] at h5;refine q e5 (as.take j++[as[j] + 1 - 2 * r]++as.drop (j + 1)) G6 (pu3.same s36) (((b1.same u1).trans b3).same s36) (by rw [h5,bV,bV,rK,yA]; rfl) (by rw [ax,ax,aT,cN]; show _ + 1 + _=4; omega) fun z=>?_;have z2:=congrArg (fun l=>l[j]?) z;rw [gY,c9 (by rw [aT]; omega),aT,iy (by omega),um,aj jl] at z2;have z3:as[j] + 1 - 2 * r=as[j]:=cQ z2;omega
end
def Wp (p:aa) (H:Hp):Hp:=fun a=>if a=p then none else H a
theorem fh {p a:aa} {H:Hp} {o:HO} (h:H a=some o) (n:a≠p):Wp p H a=some o:=by
 unfold Wp;rw [if_neg n];exact h
theorem eC {p a:aa} {H:Hp} {o:HO} (h:Wp p H a=some o):a≠p/\H a=some o:=by
 unfold Wp at h
 by_cases c:a=p
 ·rw [if_pos c] at h
  cases h
 ·rw [if_neg c] at h;exact ⟨c,h⟩
theorem But.wp {p:aa} {H H':Hp} (b:But p H H'):bj (Wp p H) (Wp p H'):=fun a o e=>by
 obtain ⟨n,h⟩:=eC e;exact fh (b _ _ h n) n
theorem hZ (p:aa) (H:Hp):bj (Wp p H) H:=fun a o e=>(eC e).2
theorem eD {p:aa} {G F:Hp} (s:bj G F):bj (Wp p G) (Wp p F):=fun a o e=>fh (s _ _ (eC e).2) (eC e).1
def reN (n:Str):Sum (Str×Int) (Str×List Int)->Sum (Str×Int) (Str×List Int)
 | .inl q=>.inl (n,q.2)
 | .inr q=>.inr (n,q.2)
def wNm:Sum (Str×Int) (Str×List Int)->Str
 | .inl q=>q.1
 | .inr q=>q.1
theorem Jn (n:Str) (x):wNm (reN n x)=n:=by cases x <;> rfl
theorem GV (n:Str) (x):(reN n x).isLeft=x.isLeft:=by cases x <;> rfl
theorem AV {p e2 e3:aa} {G:Hp} {nm:Str} {wh:V} {z:Sum (Str×Int) (Str×List Int)} (pu:dS G p) (he2:G e2=none) (he3:upd G e2 (.tup [.str nm,wh]) e3=none) (hz:∀ F:Hp,bj (Wp p G) F->F e2=some (.tup [.str nm,wh])->WrD F (.ref e2) z) :
  dS (upd (upd G e2 (.tup [.str nm,wh])) e3 (.lst [.ref e2])) p/\bj G (upd (upd G e2 (.tup [.str nm,wh])) e3 (.lst [.ref e2]))/\e3≠p/\aI (WrD (Wp p (upd (upd G e2 (.tup [.str nm,wh])) e3 (.lst [.ref e2])))) [.ref e2] [z]:=by
 have s1:=aA he2 (.tup [.str nm,wh]);have s2:=aA he3 (.lst [.ref e2]);have s:=s1.trans s2;exact ⟨pu.same s,s,jg (pu.same s1) he3,.cons (hz _ (eD s) (fh (s2 _ _ ag) (jg pu he2))) .nil⟩
theorem GX (ss:List Int) (lo hi:Option Int):∃ zs:List Int,eT (ss.map V.int) lo hi=zs.map V.int/\zs.length<=ss.length:=by
 refine ⟨(ss.drop (HT.sIx (ss.map V.int).length 0 lo)).take (HT.sIx (ss.map V.int).length (ss.map V.int).length hi - HT.sIx (ss.map V.int).length 0 lo),?_,?_⟩
 ·unfold eT;rw [<- yA,<- rK]
 ·rw [aT,cN];omega
theorem GY {p c u1 u2:aa} {F:Hp} {L:HO} (h4:F c=some (.lst [.ref u1,.ref u2])) {b:aa} {qs:List Int} (hb:Wp p F b=some (.lst (qs.map V.int))):Wp p (upd F c L) b=some (.lst (qs.map V.int)):=by
 obtain ⟨n,hb2⟩:=eC hb;refine fh ?_ n
 by_cases z:b=c
 ·rw [z,h4] at hb2;injection hb2 with hb2;injection hb2 with hb2
  cases qs with
  | nil=>cases hb2
  | cons y qs=>cases (dY hb2).1
 ·rw [aK z];exact hb2
theorem Do {t u:TS} {D:kL} {σ:St} {H:Hp} (I:St->Hp->Prop) (hu:∀ σ' H',I σ' H'->u D σ' H') (h:∀ N:St->Hp->Prop,(∀ σ' H',I σ' H'->N σ' H')->t {D with nx:=N} σ H):Ky t u D σ H:=h _ hu
section
variable {P:aL} {w:bN} {K:ae} {mg:Str->Option af} {base:cF} {f fT:aa} {fd fdT:cw}
seal PS PSs PE PA PT PW PI PG PGs PC
inductive Kk (vs:List V) (H:Hp) (Q:VK) (_e:XK):Prop where
 | mk (v:V) (p:aa) (x:Sum (Str×Int) (Str×List Int)) (_:vs=[v,.ref p]) (_:WrD (Wp p H) v x) (_:(∀ q,x=.inr q->q.2.length<=900)) (_:dS H p) (_:∀ (c:aa) (ys:List V) (zs:List (Sum (Str×Int) (Str×List Int))) (G:Hp),dS G p->But p H G->c≠p->G c=some (.lst ys)->aI (WrD (Wp p G)) ys zs->zs≠[x]->zs.length<=2->(∀ z∈zs,z.isLeft=x.isLeft)->Q (.ref c) G):Kk vs H Q _e
def spWt:Sp:=fun vs H Q _e=>Kk vs H Q _e
abbrev nWt:List Str:=["_law_write","_law_purse_here","_law_name","_law_what","_law_sort","_law_rows"]
abbrev pWt:List Str:=["_law_write","_law_purse_here"]
theorem GZ:cv nWt pWt (aQ iQ):={}
theorem ok_wt (D:Df K mg "_law_bent_write" iQ pWt f fd) (DT:Df K mg "_law_take" eO pT fT fdT) (B:Bl mg):cm P w K mg base CX0 2 f fd pWt spWt:=by
 have GT:cm P w K mg base CX0 1 fT fdT pT lA:=jY DT B;refine D.F.ok GZ (fun vs H Q E h=>?_) (fun cdv A outer s H vs Q E hr h=>?_)
 ·obtain ⟨v,p,x,rfl,_⟩:=h;rfl
 obtain ⟨v,p,x,rfl,hw,ql,pu,q⟩:=h;have r1:d5 1 _:=hr;have h50:=ET hr;refine ⟨_,ak (qD (pv 0) (xp rfl (eF (cP (i:=2) GZ.nd rfl (Or.inl rfl)) (eF (cP (i:=3) GZ.nd rfl (Or.inl rfl)) nj))))
  (ak (aZ (i:=4) GZ.nd rfl (Or.inl rfl) (aO GT r1 (by rfl) DT.m DT.F.kp DT.b .nil bY (aS (pv 1) (dR aw ao))))
  (ak (cS (bM eG (pv 4) aw (cj _)) (aF (bQ (dh (jT (cR (rO (bT cV (dh (dR cA (dR cA ao))) (iM pS (by rfl) B.int boot_int (av (nv eG (pv 2) cA (cj _)) ao)) (fun _ _=>rfl)) (aS (pv 3) ao))) ao)))) cq)
  (ak (cS (bM eG (pv 4) aw (cj _)) (aF (bQ (dh (aS (pv 0) (aS (pv 0) ao))))) cq)
  (ak (cS (sy (dB j9 (by rfl) B.isi pD (aS (pv 3) (aS (qZ (v:=.ty "list") (by rfl) B.list boot_list rfl) ao)))) (ak (aZ (i:=5) GZ.nd rfl (Or.inl rfl) (dh (jL (cC kS (pv 3) (dh (dR aw ao))) (jL (cC kS (dh (dR aw ao)) (pv 3)) ao))))
  (ak (cS (bM (qL h50) (pv 3) (dh ao) (cj _)) (aF (eK (kQ cy cJ cK gN (pv 5) (jL (cC kS (eI iu (pv 3) fX (fg (wg sI aw))) (dh (jL (cC ff (bT cV (pv 3) (wg sI aw) (fun _ _=>rfl)) aw) ao))) ao)))) cq)
  (aF (bQ (dh (jT (cR (aS (pv 2) (rO (bT cV (pv 5) (cC lX (aO GT r1 (by rfl) DT.m DT.F.kp DT.b .nil bY (aS (pv 1) (dR aw ao))) (dB (eR K (by rfl)) (by rfl) B.len cG (aS (pv 5) ao))) (fun _ _=>rfl)) ao))) ao)))))) cq)
  (aF (bQ (dh (jT (cR (aS (pv 2) (jL (cC kN (cC ff (pv 3) aw) (cC oR aw (aO GT r1 (by rfl) DT.m DT.F.kp DT.b .nil bY (aS (pv 1) (dR aw ao))))) ao))) ao)))))))),?_⟩
 have big:=fq;obtain ⟨t,wh,rfl,ht,nt,hN⟩:∃ t wh,v=.ref t/\H t=some (.tup [.str (wNm x),wh])/\t≠p/\∀ n (F:Hp) e,bj (Wp p H) F->F e=some (.tup [.str n,wh])->WrD F (.ref e) (reN n x):=by
  cases x with
  | inl a=>obtain ⟨t,e,h1⟩:=hw; exact ⟨t,_,e,(eC h1).2,(eC h1).1,fun n F e s h=>⟨e,rfl,h⟩⟩
  | inr a=>obtain ⟨t,l,e,h1,h2⟩:=hw; exact ⟨t,_,e,(eC h1).2,(eC h1).1,fun n F e s h=>⟨e,l,rfl,h,s _ _ h2⟩⟩
 refine bR (cI ⟨_,rfl,t,_,rfl,SqT.of ht,rfl,_,_,rfl,aU ⟨_,_,rfl,aU ⟨rfl,?_⟩⟩⟩);dsimp only;refine bR (cI ⟨_,rfl,p,3,rfl,pu,by decide,by decide,fun m G1 m0 m3 pu1 b1=>aU ?_⟩);dsimp only;have hw1:=WrD.same b1.wp hw;have ht1:=b1 _ _ ht nt;refine bR (jQ ⟨_,rfl,?_⟩);refine ⟨rfl,_,rfl,?_⟩;refine gS (fun _=>?_) (fun _=>?_)
 ·refine fY ?_;refine ⟨by decide,fun e1 he1=>?_⟩;have u1:=aA he1 (.lst [.str "q",.str "k"]);refine ⟨_,rfl,rfl,.inr ⟨_,rfl,?_⟩⟩;obtain ⟨nm',hn',hi⟩:∃ nm':Str,nm'≠wNm x/\atI [V.str "q",V.str "k"] (if decide (V.str (wNm x)=V.str "q")=true then 1 else 0)=some (.str nm'):=by
   by_cases c:wNm x="q"
   ·rw [c];exact ⟨"k",by decide,rfl⟩
   ·refine ⟨"q",fun z=>c z.symm,?_⟩;rw [decide_eq_false (fun z=>c (V.str.inj z))];rfl
  refine ⟨e1,_,_,_,rfl,rfl,SqL.of ag,hi,⟨_,rfl,by show 2<=au; omega,fun e2 he2=>⟨by show 1<=au; omega,fun e3 he3=>?_⟩⟩⟩;obtain ⟨a1,a2,a3,a4⟩:=AV (pu1.same u1) he2 he3 (z:=reN nm' x) fun F s h=>hN _ F _ ((b1.wp.trans (eD u1)).trans s) h;exact q e3 _ _ _ a1 ((b1.same u1).same a2) a3 ag a4 (fun z=>hn' (by rw [<- Jn nm' x,(dY z).1])) (by show 1<=2; omega) (fun z hz=>by rw [aH.mp hz,GV])
 dsimp only [mw];refine bR (jQ ⟨_,rfl,rfl,_,rfl,gS (fun _=>?_) (fun _=>?_)⟩)
 ·refine fY ⟨_,rfl,_,rfl,by show 2<=au; omega,fun e1 he1=>?_⟩;have u1:=aA he1 (.lst [.ref t,.ref t]);exact q e1 _ [x,x] _ (pu1.same u1) (b1.same u1) (jg pu1 he1) ag (.cons (WrD.same (eD u1) hw1) (.cons (WrD.same (eD u1) hw1) .nil)) (fun z=>by cases z) (aE 2) (fun z hz=>by
   rcases ay.mp hz with rfl | hz
   ·rfl
   ·rw [aH.mp hz])
 dsimp only [mw];refine bR (jQ ?_)
 cases x with
 | inl a =>
  obtain ⟨t',e',h1⟩:=hw
  cases e';rw [(eC h1).2] at ht;injection ht with ht;injection ht with ht;injection ht with _ ht;injection ht with ht;subst ht;refine ⟨_,rfl,⟨_,_,_,_,rfl,.int _,Ap,_,rfl,gi ?_⟩⟩;dsimp only [mw];refine fY ⟨_,rfl,_,rfl,?_⟩;refine ⟨_,_,rfl,rfl,_,rfl,p,2,rfl,pu1,by decide,by decide,fun r G3 r0 r2 pu3 b3=>⟨_,_,rfl,rfl,.inl ⟨by decide,by decide⟩,_,_,rfl,rfl,by show 2<=au; omega,fun e2 he2=>⟨by show 1<=au; omega,fun e3 he3=>?_⟩⟩⟩;obtain ⟨a1,a2,a3,a4⟩:=AV pu3 he2 he3 (z:=.inl (a.1,a.2 + 1 - 2 * r)) fun F s h=>⟨e2,rfl,h⟩;exact q e3 _ _ _ a1 ((b1.trans b3).same a2) a3 ag a4 (fun z=>by
   have z2:=congrArg Prod.snd (tL (dY z).1);dsimp only at z2;omega) (by show 1<=2; omega) (fun z hz=>by rw [aH.mp hz]; rfl)
 | inr a =>
  obtain ⟨t',l,e',h1,h2⟩:=hw
  cases e';rw [(eC h1).2] at ht;injection ht with ht;injection ht with ht;injection ht with _ ht;injection ht with ht;subst ht;have ln:=ql a rfl;have hl1:=b1 _ _ (eC h2).2 (eC h2).1;have nl:=(eC h2).1;refine ⟨_,rfl,⟨_,_,_,_,rfl,.lst hl1,Fc,_,rfl,iF ?_⟩⟩;refine bR (cI ⟨_,rfl,by decide,fun c0 hc0=>?_⟩);have v0:=aA hc0 (.lst [.int 0]);refine ⟨l,c0,_,_,rfl,rfl,v0 _ _ hl1,ag,by rw [ai]; show _ + 1<=_; omega,fun c1 hc1=>?_⟩;have v1:=aA hc1 (.lst (a.2.map V.int++[.int 0]));refine ⟨by decide,fun c2 hc2=>?_⟩;have v2:=aA hc2 (.lst [.int 1]);refine ⟨_,rfl,c2,l,_,_,rfl,rfl,ag,((v0.trans v1).trans v2) _ _ hl1,by rw [ai]; show 1 + _<=_; omega,fun c3 hc3=>?_⟩;have v3:=aA hc3 (.lst ([.int 1]++a.2.map V.int));refine ⟨by show 2<=au; omega,fun c4 hc4=>aU ?_⟩;have v4:=aA hc4 (.lst [.ref c1,.ref c3]);have n4:=jg (pu1.same (((v0.trans v1).trans v2).trans v3)) hc4;dsimp only;refine Do (fun σ' G=>σ'=[some (.ref t),some (.ref p),some (.str a.1),some (.ref l),some (.int m),some (.ref c4)]/\dS G p/\But p H G/\∃ rs,G c4=some (.lst rs)/\0 < rs.length/\rs.length<=3/\∀ v∈rs,∃ b qs,v=.ref b/\Wp p G b=some (.lst (qs.map V.int))/\qs≠a.2) ?_ ?_
  ·rintro σ' G ⟨rfl,puG,bG,rs,hr4,r0,r3,hrs⟩;refine fY ⟨_,rfl,_,rfl,_,rfl,p,6,rfl,puG,by decide,by decide,fun r G3 r0 r2 pu3 b3=>?_⟩;have hr5:=b3 _ _ hr4 n4;refine ⟨_,rfl,c4,_,rfl,.inl (SqL.of hr5),_,_,rfl,rfl,by show (0:Int) < (rs.length:Int); omega,?_⟩;obtain ⟨k,ek,kl⟩:∃ k:Nat,r % (rs.length:Int)=k/\k < rs.length:=⟨(r % (rs.length:Int)).toNat,by have:=gv r (b:=(rs.length:Int)) (by omega); omega,by have:=gv r (b:=(rs.length:Int)) (by omega); have:=fu r (b:=(rs.length:Int)) (by omega); omega⟩;obtain ⟨b,qs,eb,hb,nq⟩:=hrs rs[k] (gH kl);refine ⟨c4,_,_,.ref b,rfl,rfl,SqL.of hr5,(by rw [ek]; exact gR (by rw [aj kl,eb])),by show 2<=au; omega,fun e2 he2=>⟨by show 1<=au; omega,fun e3 he3=>?_⟩⟩;obtain ⟨a1,a2,a3,a4⟩:=AV pu3 he2 he3 (z:=.inr (a.1,qs)) fun F s h=>⟨e2,b,rfl,h,s _ _ (b3.wp _ _ hb)⟩;exact q e3 _ _ _ a1 ((bG.trans b3).same a2) a3 ag a4 (fun z=>nq (congrArg Prod.snd (iB (dY z).1))) (by show 1<=2; omega) (fun z hz=>by rw [aH.mp hz]; rfl)
  ·intro N hN2;refine jQ ⟨_,rfl,by show 0<=au; omega,fun c5 hc5=>?_⟩;have v5:=aA hc5 (.lst []);have v14:=((v1.trans v2).trans v3).trans v4;have v04:=v0.trans v14;have w04:=v04.trans v5;have p1:=jg (pu1.same v0) hc1;have p3:=jg (pu1.same ((v0.trans v1).trans v2)) hc3;have hA:∀ {F:Hp},bj (upd (upd (upd (upd (upd G1 c0 (.lst [.int 0])) c1 (.lst (a.2.map V.int++[.int 0]))) c2 (.lst [.int 1])) c3 (.lst ([.int 1]++a.2.map V.int))) c4 (.lst [.ref c1,.ref c3])) F->∀ v∈[V.ref c1,V.ref c3],∃ b qs,v=.ref b/\Wp p F b=some (.lst (qs.map V.int))/\qs≠a.2:=fun sF v hv=>by
    rcases ay.mp hv with rfl | hv
    ·exact ⟨c1,a.2++[0],rfl,fh (by rw [bV]; exact sF _ _ (((v2.trans v3).trans v4) _ _ ag)) p1,fun z=>by have:=congrArg gD z; rw [ax] at this; change _ + 1=_ at this; omega⟩
    ·rw [aH.mp hv];exact ⟨c3,1 :: a.2,rfl,fh (sF _ _ (v4 _ _ ag)) p3,fun z=>by have:=congrArg gD z; change _ + 1=_ at this; omega⟩
   refine ⟨l,c5,_,rfl,rfl,w04 _ _ hl1,ag,_,rfl,gS (fun ne=>?_) (fun _=>?_)⟩
   ·rcases List.eq_nil_or_concat a.2 with z | ⟨as,b,z⟩
    ·rw [z] at ne
     cases ne
    rw [List.concat_eq_append] at z;refine ⟨_,rfl,.inl ⟨rfl,_,SqL.of (v5 _ _ ag)⟩,_,rfl,_,rfl,_,rfl,l,_,rfl,SqL.of (w04 _ _ hl1),fun c6 hc6=>?_⟩;obtain ⟨zs,ez,lz⟩:=GX a.2 none (some (-1));have v6:=aA hc6 (.lst (eT (a.2.map V.int) none (some (-1))));refine ⟨_,rfl,_,rfl,l,_,_,.int b,rfl,rfl,SqL.of ((w04.trans v6) _ _ hl1),(by rw [z,bV]; exact Ew _ _),_,_,rfl,rfl,by show 1<=au; omega,fun c7 hc7=>?_⟩;have v7:=aA hc7 (.lst [.int (b + 1)]);refine ⟨c6,c7,_,_,rfl,rfl,v7 _ _ ag,ag,by rw [ez,ai]; show _ + 1<=_; omega,fun c8 hc8=>?_⟩;have v8:=aA hc8 (.lst (eT (a.2.map V.int) none (some (-1))++[.int (b + 1)]));have v57:=(v5.trans v6).trans v7;have v58:=v57.trans v8;have p8:=jg (pu1.same (v04.trans v57)) hc8;have h4:=v58 _ _ (ag (o:=.lst [.ref c1,.ref c3]));have bF:=b1.same (v04.trans v58);have ev:eT (a.2.map V.int) none (some (-1))++[.int (b + 1)]=(zs++[b + 1]).map V.int:=by
     rw [ez,bV];rfl
    refine ⟨c4,_,_,rfl,rfl,h4,by show 2 < au; omega,hN2 _ _ ⟨rfl,m7 (pu1.same (v04.trans v58)) n4,fun x o e nx=>?_,_,ag,by show 0 < 3; omega,by show 3<=3; omega,fun v hv=>?_⟩⟩
    ·by_cases c:x=c4
     ·subst c;rw [(b1.same (((v0.trans v1).trans v2).trans v3)) _ _ e nx] at hc4
      cases hc4
     ·rw [aK c];exact bF _ _ e nx
    ·rcases bU.mp hv with hv | hv
     ·obtain ⟨b',qs,e,hb,nq⟩:=hA v58 v hv;exact ⟨b',qs,e,GY h4 hb,nq⟩
     ·rw [aH.mp hv];refine ⟨c8,zs++[b + 1],rfl,GY h4 (fh (by rw [<- ev]; exact ag) p8),fun y=>?_⟩;rw [z] at y;have y2:=(List.append_inj' y rfl).2;have y3:=(dY y2).1;omega
   ·exact hN2 _ _ ⟨rfl,pu1.same w04,b1.same w04,_,v5 _ _ ag,by show 0 < 2; omega,by show 2<=3; omega,hA v5⟩
end
theorem AW {α:Type} {xs zs:List α} {k:Nat} (h:k < xs.length) (n:zs≠[xs[k]]):xs.take k++zs++xs.drop (k + 1)≠xs:=fun e=>n (by
 have e2:xs.take k++zs++xs.drop (k + 1)=xs.take k++[xs[k]]++xs.drop (k + 1):=by
  rw [e,gY,List.singleton_append,List.getElem_cons_drop,kf]
 exact List.append_cancel_left (List.append_cancel_right e2))
theorem rT {α β:Type} {F:α->β->Prop}:∀ {xs:List α} {ys:List β} (k:Nat),aI F xs ys->aI F (xs.take k) (ys.take k)
 | _,_,0,_=>.nil
 | _,_,_ + 1,.nil=>.nil
 | _,_,k + 1,.cons h r=>.cons h (rT k r)
theorem qg {α β:Type} {F:α->β->Prop}:∀ {xs:List α} {ys:List β} (k:Nat),aI F xs ys->aI F (xs.drop k) (ys.drop k)
 | _,_,0,h=>h
 | _,_,_ + 1,.nil=>.nil
 | _,_,k + 1,.cons h r=>qg k r
theorem tJ {α β:Type} {F:α->β->Prop} {xs zs:List α} {ys us:List β} (h:aI F xs ys) (z:aI F zs us):aI F (xs++zs) (ys++us):=by
 induction h with
 | nil=>exact z
 | cons x _ ih=>exact .cons x ih
theorem AX {α β:Type} {F:α->β->Prop} {xs zs:List α} {ys us:List β} (k:Nat) (h:aI F xs ys) (z:aI F zs us):aI F (xs.take k++zs++xs.drop (k + 1)) (ys.take k++us++ys.drop (k + 1)):=tJ (tJ (rT k h) z) (qg (k + 1) h)
def QS (qu:List (Str×List Int)):Prop:=∀ p∈qu,p.2.length<=30
theorem B7 {qu:List (Str×List Int)} (h:QS qu) (x:Str):(iZ qu x).length<=30:=by
 unfold iZ
 by_cases m:x∈qu.map (·.1)
 ·obtain ⟨a,h1,h2⟩:=kJ m;rw [h1];exact h _ h2
 ·cases z:qu.lookup x with
  | none=>exact bH _
  | some v =>
   have:(x,v)∈qu:=by
    clear h m
    induction qu with
    | nil=>cases z
    | cons y ys ih =>
     rw [cD] at z
     split at z
     ·rename_i e
      cases z;rw [eq_of_beq e];exact aD
     ·exact ah _ (ih z)
   exact h _ this
theorem QS.set {qu:List (Str×List Int)} (h:QS qu) {x:Str} {n:List Int} (l:n.length<=30):QS (mV qu x n):=fun p hp=>by
 obtain ⟨q,hq,rfl⟩:=cB.mp hp
 split
 ·exact l
 ·exact h q hq
mutual
theorem Mq {h:Ev} {ds:List Int}:∀ (D:Dd) (w w':Wk),QS w.qu->doD h ds D w=.ok w'->QS w'.qu
 | .put x f,w,w',k,e=>by
  simp only [doD] at e;obtain ⟨n,e⟩:=jG e
  cases e;exact k
 | .push q f,w,w',k,e=>by
  simp only [doD] at e;obtain ⟨n,e⟩:=jG e;try dsimp only at e
  split at e
  ·cases e
  ·cases e;exact k.set (by rw [ax]; show (iZ w.qu q).length + 1<=30; omega)
 | .pull q x o,w,w',k,e=>by
  simp only [doD] at e
  split at e
  ·exact vH o {w with qn:=lL w.qn q} _ k e
  ·rename_i n ns z
   cases e;have:=B7 k q;rw [z] at this;exact k.set (Nat.le_of_succ_le this)
 | .draw x f,w,w',k,e=>by
  simp only [doD] at e;obtain ⟨n,e⟩:=jG e;try dsimp only at e
  split at e
  ·cases e
  ·split at e
   ·cases e
   ·cases e;exact k
 | .send to sg sp rk a b,w,w',k,e=>by
  simp only [doD] at e;obtain ⟨n,e⟩:=jG e;try dsimp only at e
  split at e
  ·cases e
  ·obtain ⟨x,e⟩:=jG e;obtain ⟨y,e⟩:=jG e;try dsimp only at e
   split at e
   ·cases e
   ·cases e;exact k
 | .ife f t e',w,w',k,e=>by
  simp only [doD] at e;obtain ⟨n,e⟩:=jG e;try dsimp only at e
  split at e
  ·exact vH e' {w with rk:=w.rk++[f]} _ k e
  ·exact vH t {w with rk:=w.rk++[f]} _ k e
 | .fin,w,w',k,e=>by
  simp only [doD] at e
  cases e;exact k
theorem vH {h:Ev} {ds:List Int}:∀ (D:Ds) (w w':Wk),QS w.qu->doS h ds D w=.ok w'->QS w'.qu
 | .nil,w,w',k,e=>by
  simp only [doS] at e
  cases e;exact k
 | .cons d r,w,w',k,e=>by
  simp only [doS] at e
  split at e
  ·rename_i w1 e1
   exact vH r _ _ (Mq d _ _ k e1) e
  ·cases e
end
structure Mr (r:Rec):Prop where
 w:(iJ r).2.1.length<=900
 q:∀ x,Sum.inr x∈(iJ r).2.1->x.2.length<=900
 o:(iJ r).2.2.length<=5000
theorem Mu {Ms:List MD} {r:RS} (mo:rN Ms) (ml:∀ M∈Ms,M.bs.length<=9/\M.qs.length<=9) (k:ROk Ms.length r) (n:r.pd≠[]) (a:∀ s∈r.sts,QS s.qu) {P:Ev->Prop} (b:∀ e∈r.pd,e.fr=-1->P e):(∀ s∈(g9 Ms r).1.sts,QS s.qu)/\(∀ e∈(g9 Ms r).1.pd,e.fr=-1->P e)/\∀ q∈(g9 Ms r).2,Mr q/\(q.h.fr=-1->P q.h):=by
 cases uL mo k n with
 | err h M s e d q eq =>
  rw [eq];exact ⟨a,fun e he=>b e (fZ _ he),fun q hq=>by cases hq⟩
 | ok h M s w d q N eq =>
  rw [eq];obtain ⟨new,e1,e2,o1,_⟩:=N.ex;have e1:w.out=new:=e1;have hin:h∈r.pd:=by
   rw [d.pd];exact bL _ (aH.mpr rfl)
  have h0:=(k.ev h hin).to0;have qw:QS w.qu:=vH _ _ _ (a s (bX d.hs)) q;refine ⟨fun s' hs'=>?_,fun e he fr=>?_,fun q' hq=>?_⟩
  ·rcases List.mem_or_eq_of_mem_set hs' with z | z
   ·exact a s' z
   ·rw [z];exact qw
  ·rcases bU.mp ((gQ _ _).mem_iff.mp he) with z | z
   ·rw [e1] at z;have:=(o1 e z).fr;omega
   ·exact b e (fZ _ z) fr
  ·rw [aH.mp hq];have m:=ml M (bX d.hM);refine ⟨⟨?_,?_,?_⟩,fun fr=>b h hin fr⟩
   ·show ((wrB M.bs w).map Sum.inl++(wrQ M.qs w).map Sum.inr:List (Sum (Str×Int) (Str×List Int))).length<=900;unfold wrB wrQ;simp only [ax,ai];have:=iA (fun x=>decide (x∈w.wr)) M.bs;have:=iA (fun x=>decide (x∈w.wr)) M.qs;omega
   ·intro x hx
    rcases bU.mp hx with z | z
    ·obtain ⟨y,_,e⟩:=cB.mp z
     cases e
    ·obtain ⟨y,hy,e⟩:=cB.mp z
     cases e;obtain ⟨nm,_,rfl⟩:=cB.mp hy;have:=B7 qw nm;show (iZ w.qu nm).length<=900;omega
   ·show w.out.length<=5000;have dz:3 * ddz 4<=5000:=by decide
    rw [e1];omega
theorem Ha {Ms:List MD} (mo:rN Ms) (ml:∀ M∈Ms,M.bs.length<=9/\M.qs.length<=9) {es:List Ev}:∀ {i:Nat},(∀ j,j < i->ROk Ms.length (itR Ms (uo Ms es) j).1/\(itR Ms (uo Ms es) j).1.pd≠[])->(∀ s∈(itR Ms (uo Ms es) i).1.sts,QS s.qu)/\(∀ e∈(itR Ms (uo Ms es) i).1.pd,e.fr=-1->e∈pM es)/\∀ q∈(itR Ms (uo Ms es) i).2,Mr q/\(q.h.fr=-1->q.h∈pM es)
 | 0,_=>by
  refine ⟨fun s hs=>?_,fun e he _=>?_,fun q hq=>by cases hq⟩
  ·obtain ⟨M,_,rfl⟩:=cB.mp hs;intro p hp;obtain ⟨q,_,rfl⟩:=cB.mp hp;exact bH _
  ·rcases bU.mp ((gQ _ _).mem_iff.mp he) with z | z
   ·exact z
   ·cases z
 | i + 1,h=>by
  obtain ⟨a,b,c⟩:=Ha mo ml (i:=i) fun j hj=>h j (by omega);obtain ⟨a',b',c'⟩:=Mu mo ml (h i (by omega)).1 (h i (by omega)).2 a b;refine ⟨a',b',fun q hq=>?_⟩
  rcases bU.mp hq with z | z
  ·exact c q z
  ·exact c' q z
theorem Bk.sm {Ms:List MD} (mo:rN Ms) (ml:∀ M∈Ms,M.bs.length<=9/\M.qs.length<=9) {es:List Ev} {k:Int} {rs:List Rec} {e:End} (b:Bk Ms es k rs e):∀ q∈rs,Mr q/\(q.h.fr=-1->q.h∈pM es):=by
 obtain ⟨i,h1,rfl⟩:=b;exact (Ha mo ml fun j hj=>⟨(h1.1 j hj).1,(m6 (h1.1 j hj).2).2.1⟩).2.2
theorem tE.ml {CM:aa} {Ms:List MD} {H:Hp} {m:aa} (h:tE CM Ms H m):∀ M∈Ms,M.bs.length<=9/\M.qs.length<=9:=by
 obtain ⟨dx,ml,fs,_,_,xs,_,p⟩:=h;intro M hM;obtain ⟨j,hj⟩:=dG hM;obtain ⟨x,_,z⟩:=jn p hj;exact ⟨z.lb,z.lq⟩
theorem AY {Ms:List MD} (mo:rN Ms) (ml:∀ M∈Ms,M.bs.length<=9/\M.qs.length<=9) {es es':List Ev} {k k':Int} {rs:List Rec} {e e':End} (b:Bk Ms es k rs e) (b':Bk Ms es' k' rs e') {n:Nat} {x x':Ev} (hx:es[n]?=some x) (hx':es'[n]?=some x') (ne:x.b≠x'.b) {q:Rec} (hq:q∈rs) (fr:q.h.fr=-1) (c:q.h.c=n):False:=by
 have key:∀ {es:List Ev} {x:Ev},es[n]?=some x->q.h∈pM es->q.h.b=x.b:=fun {es x} hx m=>by
  obtain ⟨i,hi⟩:=dG m;obtain ⟨y,hy,e⟩:=p9 hi;have e2:q.h.c=(i:Int):=by rw [e]; rfl
  have:i=n:=by omega
  subst this;rw [hx] at hy
  cases hy;rw [e];rfl
 exact ne ((key hx ((b.sm mo ml q hq).2 fr)).symm.trans (key hx' ((b'.sm mo ml q hq).2 fr)))
theorem xj {Ms:List MD} (mo:rN Ms) {es:List Ev} {k k':Int} {rs r:List Rec} {e e':End} (b:Bk Ms es k rs e) (k0:0<=k) (b':Bk Ms es k' r e') (k0':0<=k') {zs:List Rk} (l:zs.length=rs.length) (ne:zs≠rs.map iJ):r.map iJ≠zs:=fun z=>by
 have:=(b.isPre k0).same mo k0' b' (by rw [<- l,<- z,ai]);rw [this] at z;exact ne z.symm
abbrev rkT (k wl od:aa) (h:Ev):HO:=.tup [.ref k,.int h.to,.str h.sg,.int h.a,.int h.b,.ref wl,.ref od]
theorem tK {p e k wl od:aa} {G:Hp} {ws vs:List V} (x:Rk) (pu:dS G p) (he:G e=none) (h2:Wp p G k=some (zo x.1)) (h3:Wp p G wl=some (.lst ws)) (h4:aI (WrD (Wp p G)) ws x.2.1) (h5:Wp p G od=some (.lst vs)) (h6:aI (gK (Wp p G)) vs x.2.2):dS (upd G e (rkT k wl od x.1)) p/\bj G (upd G e (rkT k wl od x.1))/\rS (Wp p (upd G e (rkT k wl od x.1))) (.ref e) x:=by
 have s:=aA he (rkT k wl od x.1);have w:=eD (p:=p) s;exact ⟨pu.same s,s,e,k,wl,od,ws,vs,rfl,fh ag (jg pu he),w _ _ h2,w _ _ h3,Paired.mono (fun _ _ z=>WrD.same w z) h4,w _ _ h5,Paired.mono (fun _ _ z=>z.same w) h6⟩
theorem oj {α β:Type} {F:α->β->Prop}:∀ {xs:List α} {ys:List β} {k:Nat},aI F xs ys->(h:k < xs.length)->(h':k < ys.length)->F xs[k] ys[k]
 | _,_,0,.cons a _,_,_=>a
 | _,_,k + 1,.cons _ r,h,h'=>oj r (ik h) (ik h')
section
variable {P:aL} {w:bN} {K:ae} {mg:Str->Option af} {base:cF} {f fT fWt fKy fRo:aa} {fd fdT fdWt fdKy fdRo:cw}
seal PS PSs PE PA PT PW PI PG PGs PC
inductive Kl (vs:List V) (H:Hp) (Q:VK) (_e:XK):Prop where
 | mk (v:V) (p:aa) (x:Rk) (_:vs=[v,.ref p]) (_:rS (Wp p H) v x) (_:x.2.1.length<=900) (_:(∀ q,Sum.inr q∈x.2.1->q.2.length<=900)) (_:x.2.2.length<=5000) (_:dS H p) (_:∀ (c:aa) (y:Rk) (G:Hp),dS G p->But p H G->rS (Wp p G) (.ref c) y->y≠x->Q (.ref c) G):Kl vs H Q _e
def spBt:Sp:=fun vs H Q _e=>Kl vs H Q _e
abbrev nBt:List Str:=["_law_record","_law_purse_here","_law_key","_law_to","_law_sign","_law_one","_law_other","_law_writes","_law_sent","_law_sort","_law_at","_law_new","_law_rows"]
abbrev pBt:List Str:=["_law_record","_law_purse_here"]
theorem rV:cv nBt pBt (aQ nY):={}
theorem ok_bt (D:Df K mg "_law_bent" nY pBt f fd) (DT:Df K mg "_law_take" eO pT fT fdT) (DWt:Df K mg "_law_bent_write" iQ pWt fWt fdWt) (DKy:Df K mg "_law_bent_key" jD pKy fKy fdKy) (DRo:Df K mg "_law_row" mT AU fRo fdRo) (B:Bl mg):cm P w K mg base CX0 3 f fd pBt spBt:=by
 have GT:cm P w K mg base CX0 1 fT fdT pT lA:=jY DT B;have GWt:cm P w K mg base CX0 2 fWt fdWt pWt spWt:=ok_wt DWt DT B;have GKy:cm P w K mg base CX0 2 fKy fdKy pKy spKy:=ok_ky DKy DT B;have GRo:cm P w K mg base CX0 1 fRo fdRo AU GH:=GJ DRo;refine D.F.ok rV (fun vs H Q E h=>?_) (fun cdv A outer s H vs Q E hr h=>?_)
 ·obtain ⟨v,p,x,rfl,_⟩:=h;rfl
 obtain ⟨v,p,x,rfl,hx,l1,l2,l3,pu,q⟩:=h;have r2:d5 2 _:=hr;have r1:d5 1 _:=r2.mono (by decide);have h50:=ET hr;refine ⟨_,ak (qD (pv 0) (xp rfl (eF (cP (i:=2) rV.nd rfl (Or.inl rfl)) (eF (cP (i:=3) rV.nd rfl (Or.inl rfl)) (eF (cP (i:=4) rV.nd rfl (Or.inl rfl)) (eF (cP (i:=5) rV.nd rfl (Or.inl rfl)) (eF (cP (i:=6) rV.nd rfl (Or.inl rfl)) (eF (cP (i:=7) rV.nd rfl (Or.inl rfl)) (eF (cP (i:=8) rV.nd rfl (Or.inl rfl)) nj)))))))))
  (ak (aZ (i:=9) rV.nd rfl (Or.inl rfl) (aO GT r1 (by rfl) DT.m DT.F.kp DT.b .nil bY (aS (pv 1) (dR aw ao))))
  (ak (cS ((qC (bM eG (pv 9) aw (cj _)) (nh (bM (qL h50) (pv 7) (dh ao) (cj _)))).pt) (ak (aZ (i:=10) rV.nd rfl (Or.inl rfl) (aO GT r1 (by rfl) DT.m DT.F.kp DT.b .nil bY (aS (pv 1) (jK (dB (eR K (by rfl)) (by rfl) B.len cG (aS (pv 7) ao)) ao))))
  (aF (bQ (cR (aS (pv 2) (aS (pv 3) (aS (pv 4) (aS (pv 5) (aS (pv 6) (jK (aO GRo r1 (by rfl) DRo.m DRo.F.kp DRo.b .nil bY (aS (pv 7) (aS (pv 10) (jK (aO GWt r2 (by rfl) DWt.m DWt.F.kp DWt.b .nil bY (rO (bT cV (pv 7) (pv 10) (fun _ _=>rfl)) (aS (pv 1) ao))) ao)))) (aS (pv 8) ao))))))))))) cq)
  (ak (cS ((qC (bM eG (pv 9) aw (cj _)) (nh (bM (qL h50) (pv 7) (dh ao) (cj _)))).pt) (aF (bQ (cR (aS (pv 2) (aS (pv 3) (aS (pv 4) (aS (pv 5) (aS (pv 6) (rO (eI iu (pv 7) (fg aw) fX) (aS (pv 8) ao)))))))))) cq)
  (ak (cS ((qC (bM eG (pv 9) aw (cj _)) (nh (bM (qL h50) (pv 8) (dh ao) (cj _)))).pt) (ak (aZ (i:=10) rV.nd rfl (Or.inl rfl) (aO GT r1 (by rfl) DT.m DT.F.kp DT.b .nil bY (aS (pv 1) (jK (dB (eR K (by rfl)) (by rfl) B.len cG (aS (pv 8) ao)) ao))))
  (ak (aZ (i:=11) rV.nd rfl (Or.inl rfl) (cC pX (cR (jK (aO GKy r2 (by rfl) DKy.m DKy.F.kp DKy.b .nil bY (rO (bT cL (bT cV (pv 8) (pv 10) (fun _ _=>rfl)) aw (fun _ _=>rfl)) (aS (pv 1) ao))) ao)) (eI qH (bT cV (pv 8) (pv 10) (fun _ _=>rfl)) (fg aw) fX)))
  (aF (bQ (cR (aS (pv 2) (aS (pv 3) (aS (pv 4) (aS (pv 5) (aS (pv 6) (aS (pv 7) (jK (aO GRo r1 (by rfl) DRo.m DRo.F.kp DRo.b .nil bY (aS (pv 8) (aS (pv 10) (F5 (dh (aS (pv 11) ao)) ao)))) ao)))))))))))) cq)
  (ak (cS ((qC (bM eG (pv 9) aw (cj _)) (nh (bM (qL h50) (pv 8) (dh ao) (cj _)))).pt) (ak (aZ (i:=11) rV.nd rfl (Or.inl rfl) (cC pX (cC pX (eI qH (bT cV (pv 8) aw (fun _ _=>rfl)) fX (fg aw)) (cR (jL (cC ff (bT cL (bT cV (pv 8) aw (fun _ _=>rfl)) aw (fun _ _=>rfl)) aw) ao))) (eI qH (bT cV (pv 8) aw (fun _ _=>rfl)) (fg aw) fX)))
  (ak (aZ (i:=12) rV.nd rfl (Or.inl rfl) (dh (jL (cC kS (dh (aS (pv 11) ao)) (eI iu (pv 8) (fg aw) fX)) (rO (eI iu (pv 8) (fg aw) fX) (jL (cC kS (pv 8) (eI iu (pv 8) fX (fg aw))) ao)))))
  (aF (bQ (cR (aS (pv 2) (aS (pv 3) (aS (pv 4) (aS (pv 5) (aS (pv 6) (aS (pv 7) (rO (bT cV (pv 12) (aO GT r1 (by rfl) DT.m DT.F.kp DT.b .nil bY (aS (pv 1) (dR aw ao))) (fun _ _=>rfl)) ao)))))))))))) cq)
  (ak (cS (bM eG (pv 9) aw (cj _)) (aF (bQ (cR (aS (pv 2) (jL (cC ff (pv 3) aw) (aS (pv 4) (aS (pv 5) (aS (pv 6) (aS (pv 7) (aS (pv 8) ao)))))))))) cq)
  (ak (cS (bM eG (pv 9) aw (cj _)) (aF (bQ (cR (aS (pv 2) (aS (pv 3) (rO (bT cV (dh (dR cA (dR cA ao))) (iM pS (by rfl) B.int boot_int (av (nv eG (pv 4) cA (cj _)) ao)) (fun _ _=>rfl)) (aS (pv 5) (aS (pv 6) (aS (pv 7) (aS (pv 8) ao)))))))))) cq)
  (ak (cS (bM eG (pv 9) aw (cj _)) (aF (bQ (cR (aS (pv 2) (aS (pv 3) (aS (pv 4) (jL (cC ff (pv 5) aw) (aS (pv 6) (aS (pv 7) (aS (pv 8) ao)))))))))) cq)
  (ak (cS (bM eG (pv 9) aw (cj _)) (aF (bQ (cR (aS (pv 2) (aS (pv 3) (aS (pv 4) (aS (pv 5) (jL (cC kN (pv 6) aw) (aS (pv 7) (aS (pv 8) ao)))))))))) cq)
  (aF (bQ (cR (jK (aO GKy r2 (by rfl) DKy.m DKy.F.kp DKy.b .nil bY (aS (pv 2) (aS (pv 1) ao))) (aS (pv 3) (aS (pv 4) (aS (pv 5) (aS (pv 6) (aS (pv 7) (aS (pv 8) ao))))))))))))))))))),?_⟩
 have big:100000 < au:=by decide
 obtain ⟨rc,k,wl,od,ws,us,rfl,h1,h2,h3,h4,h5,h6⟩:=hx;refine bR (cI ⟨_,rfl,rc,_,rfl,SqT.of (eC h1).2,rfl,_,_,rfl,aU ⟨_,_,rfl,aU ⟨_,_,rfl,aU ⟨_,_,rfl,aU ⟨_,_,rfl,aU ⟨_,_,rfl,aU ⟨_,_,rfl,aU ⟨rfl,?_⟩⟩⟩⟩⟩⟩⟩⟩);dsimp only;refine bR (cI ⟨_,rfl,p,9,rfl,pu,by decide,by decide,fun m G1 m0 m3 pu1 b1=>aU ?_⟩);dsimp only;have w1:=b1.wp;have sk:∀ {G:Hp},bj G1 G->dS G p/\But p H G/\Wp p G k=some (zo x.1)/\Wp p G wl=some (.lst ws)/\aI (WrD (Wp p G)) ws x.2.1/\Wp p G od=some (.lst us)/\aI (gK (Wp p G)) us x.2.2:=fun s=>by
  have w:=w1.trans (eD s);exact ⟨pu1.same s,b1.same s,w _ _ h2,w _ _ h3,Paired.mono (fun _ _ z=>WrD.same w z) h4,w _ _ h5,Paired.mono (fun _ _ z=>z.same w) h6⟩
 refine Do (fun σ' G=>σ'=[some (.ref rc),some (.ref p),some (.ref k),some (.int x.1.to),some (.str x.1.sg),some (.int x.1.a),some (.int x.1.b),some (.ref wl),some (.ref od),some (.int m),none,none,none]/\bj G1 G) ?_ ?_
 rotate_left
 ·intro N hN;refine jQ ⟨_,rfl,rfl,_,rfl,gS (fun _=>?_) (fun _=>gi (hN _ _ ⟨rfl,(bj.refl _)⟩))⟩;obtain ⟨puG,bG,k2,k3,k4,k5,k6⟩:=sk (bj.refl _);refine ⟨_,rfl,by show 0<=au; omega,fun e0 he0=>?_⟩;have u0:=aA he0 (.lst []);refine ⟨wl,e0,_,rfl,rfl,u0 _ _ (eC k3).2,ag,_,rfl,gS (fun ne=>?_) (fun _=>hN _ _ ⟨rfl,(bj.refl _).trans u0⟩)⟩;have ne0:0 < ws.length:=by
   cases ws with
   | nil=>cases ne
   | cons y ws=>exact fJ _
  have ll:=h4.length;refine bR (cI ⟨_,rfl,_,rfl,wl,_,rfl,.inl (SqL.of (u0 _ _ (eC k3).2)),p,_,rfl,puG.same u0,by omega,by omega,fun j G3 j0 jl pu3 b3=>aU ?_⟩);obtain ⟨j,rfl⟩:∃ i:Nat,j=i:=⟨j.toNat,by omega⟩;have jw:j < ws.length:=by omega
  have jx:j < x.2.1.length:=by omega
  have w3:=(eD (p:=p) u0).trans b3.wp;have g3:=w3 _ _ k3;dsimp only;refine fY ⟨_,rfl,_,rfl,_,rfl,_,rfl,_,rfl,_,rfl,_,rfl,_,rfl,_,rfl,wl,_,_,ws[j],rfl,rfl,SqL.of (eC g3).2,gR (aj jw),_,rfl,ws[j],p,x.2.1[j],rfl,WrD.same w3 (oj k4 jw jx),fun q e=>l2 q (e ▸ gH jx),pu3,fun c ys zs G4 pu4 b4 nc hc pz nz lz kz=>?_⟩;have w4:=w3.trans b4.wp;refine ⟨wl,c,j,ws,ys,rfl,(eC (w4 _ _ k3)).2,hc,jw,by omega,by rw [pz.length]; omega,fun c2 G5 s5 n2 hc2=>⟨_,rfl,by show 7<=au; omega,fun e he=>?_⟩⟩;have w5:=w4.trans (eD s5);obtain ⟨a1,a2,a3⟩:=tK (x.1,x.2.1.take j++zs++x.2.1.drop (j + 1),x.2.2) (pu4.same s5) he (w5 _ _ k2) (wl:=c2) (fh hc2 (jg pu4 n2)) (AX j (Paired.mono (fun _ _ z=>WrD.same w5 z) k4) (Paired.mono (fun _ _ z=>WrD.same (eD s5) z) pz)) (w5 _ _ k5) (Paired.mono (fun _ _ z=>z.same w5) k6);exact q e _ _ a1 ((((bG.same u0).trans b3).trans b4).same (s5.trans a2)) a3 fun z=>AW jx nz (congrArg (fun y:Rk=>y.2.1) z)
 rintro _ G2 ⟨rfl,s2⟩;refine Do (fun σ' G=>σ'=[some (.ref rc),some (.ref p),some (.ref k),some (.int x.1.to),some (.str x.1.sg),some (.int x.1.a),some (.int x.1.b),some (.ref wl),some (.ref od),some (.int m),none,none,none]/\bj G1 G) ?_ ?_
 rotate_left
 ·intro N hN;refine jQ ⟨_,rfl,rfl,_,rfl,gS (fun _=>?_) (fun _=>gi (hN _ _ ⟨rfl,s2⟩))⟩;obtain ⟨puG,bG,k2,k3,k4,k5,k6⟩:=sk s2;refine ⟨_,rfl,by show 0<=au; omega,fun e0 he0=>?_⟩;have u0:=aA he0 (.lst []);refine ⟨wl,e0,_,rfl,rfl,u0 _ _ (eC k3).2,ag,_,rfl,gS (fun ne=>?_) (fun _=>hN _ _ ⟨rfl,s2.trans u0⟩)⟩;have ne0:0 < ws.length:=by
   cases ws with
   | nil=>cases ne
   | cons y ws=>exact fJ _
  refine fY ⟨_,rfl,_,rfl,_,rfl,_,rfl,_,rfl,_,rfl,_,rfl,wl,_,rfl,SqL.of (u0 _ _ (eC k3).2),fun e1 he1=>⟨_,rfl,by show 7<=au; omega,fun e he=>?_⟩⟩;have u1:=aA he1 (.lst (eT ws (some 1) none));have ec:eT ws (some 1) none=ws.drop 1:=m8 (k:=1) ne0;obtain ⟨pu',b',k2',k3',k4',k5',k6'⟩:=sk ((s2.trans u0).trans u1);have ll:=h4.length;obtain ⟨a1,a2,a3⟩:=tK (x.1,x.2.1.drop 1,x.2.2) pu' he k2' (wl:=e1) (fh ag (jg (puG.same u0) he1)) (by have:=qg 1 k4'; rw [<- ec] at this; exact this) k5' k6';exact q e _ _ a1 (b'.same a2) a3 fun z=>by
   have:=congrArg gD (congrArg (fun y:Rk=>y.2.1) z);dsimp only at this;rw [cN] at this;omega
 rintro _ G3 ⟨rfl,s3⟩;refine Do (fun σ' G=>σ'=[some (.ref rc),some (.ref p),some (.ref k),some (.int x.1.to),some (.str x.1.sg),some (.int x.1.a),some (.int x.1.b),some (.ref wl),some (.ref od),some (.int m),none,none,none]/\bj G1 G) ?_ ?_
 rotate_left
 ·intro N hN;refine jQ ⟨_,rfl,rfl,_,rfl,gS (fun _=>?_) (fun _=>gi (hN _ _ ⟨rfl,s3⟩))⟩;obtain ⟨puG,bG,k2,k3,k4,k5,k6⟩:=sk s3;refine ⟨_,rfl,by show 0<=au; omega,fun e0 he0=>?_⟩;have u0:=aA he0 (.lst []);refine ⟨od,e0,_,rfl,rfl,u0 _ _ (eC k5).2,ag,_,rfl,gS (fun ne=>?_) (fun _=>hN _ _ ⟨rfl,s3.trans u0⟩)⟩;have ne0:0 < us.length:=by
   cases us with
   | nil=>cases ne
   | cons y us=>exact fJ _
  have ll:=h6.length;refine bR (cI ⟨_,rfl,_,rfl,od,_,rfl,.inl (SqL.of (u0 _ _ (eC k5).2)),p,_,rfl,puG.same u0,by omega,by omega,fun j G4 j0 jl pu4 b4=>aU ?_⟩);obtain ⟨j,rfl⟩:∃ i:Nat,j=i:=⟨j.toNat,by omega⟩;have ju:j < us.length:=by omega
  have jx:j < x.2.2.length:=by omega
  have w4:=(eD (p:=p) u0).trans b4.wp;obtain ⟨et,ek,ee,he1,he2⟩:=gK.same w4 (oj k6 ju jx);have g4:=w4 _ _ k5;dsimp only;refine bR (cI ⟨_,rfl,_,rfl,od,_,_,us[j],rfl,rfl,SqL.of (eC g4).2,gR (aj ju),et,_,_,.ref ek,ee,rfl,SqT.of (eC he1).2,rfl,_,rfl,ek,p,[x.2.2[j].t,x.2.2[j].r,x.2.2[j].fr,x.2.2[j].c],rfl,(eC he2).2,rfl,pu4,fun c bs G5 pu5 b5 hc l4 nb=>⟨by show 1<=au; omega,fun e1 hn1=>?_⟩⟩);have v1:=aA hn1 (.tup [.ref c]);have w5:=b5.wp.trans (eD (p:=p) v1);refine ⟨_,rfl,_,rfl,od,_,_,us[j],rfl,rfl,SqL.of (eC (w5 _ _ g4)).2,gR (aj ju),_,rfl,et,_,ee,SqT.of (eC (w5 _ _ he1)).2,fun z=>absurd z.1 (show ¬ HT.sIx 5 0 (some 1)=0 by decide),fun e2 hn2=>?_⟩;have v2:=aA hn2 (.tup [.int x.2.2[j].to,.str x.2.2[j].sg,.int x.2.2[j].a,.int x.2.2[j].b]);refine ⟨e1,e2,[.ref c],[.int x.2.2[j].to,.str x.2.2[j].sg,.int x.2.2[j].a,.int x.2.2[j].b],rfl,rfl,SqT.of (v2 _ _ ag),SqT.of ag,by simp,by show 5<=au; omega,(fun z=>by cases z),fun _ e3 hn3=>aU ?_⟩;have v3:=aA hn3 (.tup [.ref c,.int x.2.2[j].to,.str x.2.2[j].sg,.int x.2.2[j].a,.int x.2.2[j].b]);dsimp only;refine fY ⟨_,rfl,_,rfl,_,rfl,_,rfl,_,rfl,_,rfl,_,rfl,_,rfl,_,rfl,by show 1<=au; omega,fun e4 hn4=>?_⟩;have v4:=aA hn4 (.lst [.ref e3]);have v14:=((v1.trans v2).trans v3).trans v4;have w6:=(w4.trans b5.wp).trans (eD (p:=p) v14);refine ⟨od,e4,j,us,[.ref e3],rfl,(eC (w6 _ _ k5)).2,ag,ju,by omega,by show 1<=9000; omega,fun c2 G6 s6 n2 hc2=>⟨by show 7<=au; omega,fun e he=>?_⟩⟩;have w7:=w6.trans (eD (p:=p) s6)
  match bs,l4,hc,nb with
  | [t0,t1,t2,t3],_,hc,nb =>
   have nc:c≠p:=fun z=>by
    obtain ⟨y,y2,e⟩:=pu5;rw [z,e] at hc
    cases hc
   have pe:gK (Wp p G6) (.ref e3) {x.2.2[j] with t:=t0,r:=t1,fr:=t2,c:=t3}:=⟨e3,c,rfl,fh (s6 _ _ (v4 _ _ ag)) (jg (pu5.same (v1.trans v2)) hn3),fh (s6 _ _ (v14 _ _ hc)) nc⟩;obtain ⟨a1,a2,a3⟩:=tK (x.1,x.2.1,x.2.2.take j++[{x.2.2[j] with t:=t0,r:=t1,fr:=t2,c:=t3}]++x.2.2.drop (j + 1)) (pu5.same (v14.trans s6)) he (w7 _ _ k2) (w7 _ _ k3) (Paired.mono (fun _ _ z=>WrD.same w7 z) k4) (od:=c2) (fh hc2 (jg (pu5.same v14) n2)) (AX j (Paired.mono (fun _ _ z=>gK.same w7 z) k6) (.cons pe .nil));exact q e _ _ a1 ((((bG.same u0).trans b4).trans b5).same ((v14.trans s6).trans a2)) a3 fun z=>AW jx (fun y=>nb (by rw [<- (dY y).1])) (congrArg (fun y:Rk=>y.2.2) z)
 rintro _ G4 ⟨rfl,s4⟩;refine Do (fun σ' G=>σ'=[some (.ref rc),some (.ref p),some (.ref k),some (.int x.1.to),some (.str x.1.sg),some (.int x.1.a),some (.int x.1.b),some (.ref wl),some (.ref od),some (.int m),none,none,none]/\bj G1 G) ?_ ?_
 rotate_left
 ·intro N hN;refine jQ ⟨_,rfl,rfl,_,rfl,gS (fun _=>?_) (fun _=>gi (hN _ _ ⟨rfl,s4⟩))⟩;obtain ⟨puG,bG,k2,k3,k4,k5,k6⟩:=sk s4;refine ⟨_,rfl,by show 0<=au; omega,fun e0 he0=>?_⟩;have u0:=aA he0 (.lst []);refine ⟨od,e0,_,rfl,rfl,u0 _ _ (eC k5).2,ag,_,rfl,gS (fun ne=>?_) (fun _=>hN _ _ ⟨rfl,s4.trans u0⟩)⟩;have ne0:0 < us.length:=by
   cases us with
   | nil=>cases ne
   | cons y us=>exact fJ _
  have ll:=h6.length;have nx:0 < x.2.2.length:=by omega
  have w0:=eD (p:=p) u0;have hat:=gR (aj ne0);obtain ⟨et,ek,ee,he1,he2⟩:=gK.same w0 (oj k6 ne0 nx);have g4:=(eC (w0 _ _ k5)).2;have g1:=(eC he1).2;refine bR (cI ⟨_,rfl,od,_,_,us[0],rfl,rfl,SqL.of g4,hat,_,rfl,et,_,ee,SqT.of g1,fun z=>absurd z.2 (show ¬ HT.sIx 5 5 (some 3)=5 by decide),fun e1 hn1=>?_⟩);have v1:=aA hn1 (.tup [.ref ek,.int x.2.2[0].to,.str x.2.2[0].sg]);refine ⟨_,rfl,od,_,_,us[0],rfl,rfl,SqL.of (v1 _ _ g4),hat,et,_,_,_,ee,rfl,SqT.of (v1 _ _ g1),rfl,_,_,rfl,rfl,by show 1<=au; omega,fun e2 hn2=>?_⟩;have v2':=aA hn2 (.tup [.int (x.2.2[0].a + 1)]);have v2:=v1.trans v2';refine ⟨e1,e2,[.ref ek,.int x.2.2[0].to,.str x.2.2[0].sg],[.int (x.2.2[0].a + 1)],rfl,rfl,SqT.of (v2' _ _ ag),SqT.of ag,by simp,by show 4<=au; omega,(fun z=>by cases z),fun _ e3 hn3=>?_⟩;have v3:=v2.trans (aA hn3 (.tup [.ref ek,.int x.2.2[0].to,.str x.2.2[0].sg,.int (x.2.2[0].a + 1)]));refine ⟨_,rfl,od,_,_,us[0],rfl,rfl,SqL.of (v3 _ _ g4),hat,_,rfl,et,_,ee,SqT.of (v3 _ _ g1),fun z=>absurd z.1 (show ¬ HT.sIx 5 0 (some 4)=0 by decide),fun e4 hn4=>?_⟩;have v4':=aA hn4 (.tup [.int x.2.2[0].b]);have v4:=v3.trans v4';refine ⟨e3,e4,[.ref ek,.int x.2.2[0].to,.str x.2.2[0].sg,.int (x.2.2[0].a + 1)],[.int x.2.2[0].b],rfl,rfl,SqT.of (v4' _ _ ag),SqT.of ag,by simp,by show 5<=au; omega,(fun z=>by cases z),fun _ e5 hn5=>aU ?_⟩;have v5:=v4.trans (aA hn5 (.tup [.ref ek,.int x.2.2[0].to,.str x.2.2[0].sg,.int (x.2.2[0].a + 1),.int x.2.2[0].b]));dsimp only;refine bR (cI ⟨_,rfl,by show 1<=au; omega,fun f1 hf1=>?_⟩);have y1':=aA hf1 (.lst [.ref e5]);have y1:=v5.trans y1';have ec:eT us (some 1) none=us.drop 1:=m8 (k:=1) ne0;refine ⟨_,rfl,_,rfl,od,_,rfl,SqL.of (y1 _ _ g4),fun f2 hf2=>?_⟩;have y2':=aA hf2 (.lst (eT us (some 1) none));have y2:=y1.trans y2';refine ⟨f1,f2,[.ref e5],_,rfl,rfl,y2' _ _ ag,ag,by rw [ec]; show 1 + (us.drop 1).length<=au; rw [cN]; omega,fun f3 hf3=>?_⟩;have y3:=y2.trans (aA hf3 (.lst ([.ref e5]++eT us (some 1) none)));refine ⟨_,rfl,_,rfl,od,_,rfl,SqL.of (y3 _ _ g4),fun f4 hf4=>?_⟩;have y4':=aA hf4 (.lst (eT us (some 1) none));have y4:=y3.trans y4';refine ⟨_,rfl,_,rfl,_,rfl,od,_,rfl,SqL.of (y4 _ _ g4),fun f5 hf5=>?_⟩;have y5':=aA hf5 (.lst (eT us none (some 1)));have y5:=y4.trans y5';have ect:eT us none (some 1)=us.take 1:=qe (k:=1) ne0;refine ⟨od,f5,us,_,rfl,rfl,y5 _ _ g4,ag,by rw [ect,aT]; omega,fun f6 hf6=>⟨by show 3<=au; omega,fun f7 hf7=>aU ?_⟩⟩;have y6':=aA hf6 (.lst (us++eT us none (some 1)));have y6:=y5.trans y6';have y7':=aA hf7 (.lst [.ref f3,.ref f4,.ref f6]);have y7:=y6.trans y7';dsimp only;have pu7:=puG.same (u0.trans y7);have wH:=eD (p:=p) (u0.trans y7);have nf:∀ {a:aa} {o:HO} {F F':Hp},bj (upd G4 e0 (.lst [])) F->F a=none->bj (upd F a o) F'->Wp p F' a=some o:=fun s n s'=>fh (s' _ _ ag) (jg ((puG.same u0).same s) n);have j5:=nf v4 hn5 ((((((y1'.trans y2').trans (aA hf3 _)).trans y4').trans y5').trans y6').trans y7');have jk:=(eD (p:=p) y7) _ _ he2;have j3:=nf y2 hf3 (((y4'.trans y5').trans y6').trans y7');have j4:=nf y3 hf4 ((y5'.trans y6').trans y7');have j6:=nf y5 hf6 y7';have j7:=nf (o:=.lst [.ref f3,.ref f4,.ref f6]) y6 hf7 (bj.refl _);have bG7:=bG.same (u0.trans y7);revert pu7 wH j5 jk j3 j4 j6 j7 bG7;generalize upd (upd _ f6 (.lst (us++eT us none (some 1)))) f7 (.lst [.ref f3,.ref f4,.ref f6])=G7;rw [ec,ect];intro pu7 wH j5 jk j3 j4 j6 j7 bG7;refine fY ⟨_,rfl,_,rfl,_,rfl,_,rfl,_,rfl,_,rfl,_,rfl,_,rfl,p,3,rfl,pu7,by decide,by decide,fun r G8 r0 r3 pu8 b8=>?_⟩;have w8:=wH.trans b8.wp;have pe:gK (Wp p G8) (.ref e5) {x.2.2[0] with a:=x.2.2[0].a + 1}:=⟨e5,ek,rfl,b8.wp _ _ j5,b8.wp _ _ jk⟩;have p6:=Paired.mono (fun _ _ z=>gK.same w8 z) k6;have fin4:∀ (fx:aa) (vs:List V) (ys:List Ev),Wp p G7 fx=some (.lst vs)->aI (gK (Wp p G8)) vs ys->ys≠x.2.2->∀ e,G8 e=none->Q (.ref e) (upd G8 e (rkT k wl fx x.1)):=fun fx vs ys q1 q2 q3 e he=>by
   obtain ⟨a1,a2,a3⟩:=tK (x.1,x.2.1,ys) pu8 he (w8 _ _ k2) (w8 _ _ k3) (Paired.mono (fun _ _ z=>WrD.same w8 z) k4) (od:=fx) (b8.wp _ _ q1) q2;exact q e _ _ a1 ((bG7.trans b8).same a2) a3 fun z=>q3 (congrArg (fun y:Rk=>y.2.2) z)
  have g7:=(eC (b8.wp _ _ j7)).2;have cs:r=0\/r=1\/r=2:=by omega
  rcases cs with rfl | rfl | rfl
  ·refine ⟨f7,_,0,.ref f3,rfl,rfl,SqL.of g7,rfl,by show 7<=au; omega,fin4 f3 _ ({x.2.2[0] with a:=x.2.2[0].a + 1} :: x.2.2.drop 1) j3 (.cons pe (qg 1 p6)) fun z=>?_⟩;have e1:=congrArg (fun l:List Ev=>l[0]?) z;have e2:x.2.2[0]?=some x.2.2[0]:=aj nx;dsimp only at e1;rw [e2] at e1;have e3:=congrArg Ev.a (cQ e1);dsimp only at e3;omega
  ·refine ⟨f7,_,1,.ref f4,rfl,rfl,SqL.of g7,rfl,by show 7<=au; omega,fin4 f4 _ (x.2.2.drop 1) j4 (qg 1 p6) fun z=>?_⟩;have:=congrArg gD z;rw [cN] at this;omega
  ·refine ⟨f7,_,2,.ref f6,rfl,rfl,SqL.of g7,rfl,by show 7<=au; omega,fin4 f6 _ (x.2.2++x.2.2.take 1) j6 (tJ p6 (rT 1 p6)) fun z=>?_⟩;have:=congrArg gD z;rw [ax,aT] at this;omega
 rintro _ G ⟨rfl,s5⟩;obtain ⟨puG,bG,k2,k3,k4,k5,k6⟩:=sk s5;have fin:∀ {G:Hp} (s:bj G1 G) (h:Ev) (e:aa),[h.t,h.r,h.fr,h.c]=[x.1.t,x.1.r,x.1.fr,x.1.c]->h≠x.1->G e=none->Q (.ref e) (upd G e (rkT k wl od h)):=fun s h e ek ne he=>by
  obtain ⟨puG,bG,k2,k3,k4,k5,k6⟩:=sk s;obtain ⟨a1,a2,a3⟩:=tK (h,x.2) puG he (k:=k) (by
   obtain ⟨y1,ek⟩:=dY ek;obtain ⟨y2,ek⟩:=dY ek;obtain ⟨y3,ek⟩:=dY ek;obtain ⟨y4,_⟩:=dY ek;show _=some (HO.tup [.int h.t,.int h.r,.int h.fr,.int h.c]);rw [k2,y1,y2,y3,y4]) k3 k4 k5 k6
  exact q e _ _ a1 (bG.same a2) a3 fun z=>ne (congrArg Prod.fst z)
 refine bR (jQ ⟨_,rfl,rfl,_,rfl,gS (fun _=>?_) (fun _=>?_)⟩)
 ·refine fY ⟨_,rfl,_,rfl,_,_,rfl,rfl,_,rfl,_,rfl,_,rfl,_,rfl,_,rfl,by show 7<=au; omega,fun e he=>?_⟩;exact fin s5 {x.1 with to:=x.1.to + 1} e rfl (fun z=>by have:=congrArg Ev.to z; dsimp only at this; omega) he
 dsimp only [mw];refine bR (jQ ⟨_,rfl,rfl,_,rfl,gS (fun _=>?_) (fun _=>?_)⟩)
 ·refine fY ⟨_,rfl,_,rfl,by decide,fun e1 he1=>?_⟩;have u1:=aA he1 (.lst [.str "q",.str "k"]);obtain ⟨nm',hn',hi⟩:∃ nm':Str,nm'≠x.1.sg/\atI [V.str "q",V.str "k"] (if decide (V.str x.1.sg=V.str "q")=true then 1 else 0)=some (.str nm'):=by
   by_cases c:x.1.sg="q"
   ·rw [c];exact ⟨"k",by decide,rfl⟩
   ·refine ⟨"q",fun z=>c z.symm,?_⟩;rw [decide_eq_false (fun z=>c (V.str.inj z))];rfl
  refine ⟨_,rfl,rfl,.inr ⟨_,rfl,e1,_,_,_,rfl,rfl,SqL.of ag,hi,_,rfl,_,rfl,_,rfl,_,rfl,by show 7<=au; omega,fun e he=>?_⟩⟩;exact fin (s5.trans u1) {x.1 with sg:=nm'} e rfl (fun z=>hn' (congrArg Ev.sg z)) he
 dsimp only [mw];refine bR (jQ ⟨_,rfl,rfl,_,rfl,gS (fun _=>?_) (fun _=>?_)⟩)
 ·refine fY ⟨_,rfl,_,rfl,_,rfl,_,rfl,_,_,rfl,rfl,_,rfl,_,rfl,_,rfl,by show 7<=au; omega,fun e he=>?_⟩;exact fin s5 {x.1 with a:=x.1.a + 1} e rfl (fun z=>by have:=congrArg Ev.a z; dsimp only at this; omega) he
 dsimp only [mw];refine bR (jQ ⟨_,rfl,rfl,_,rfl,gS (fun _=>?_) (fun _=>?_)⟩)
 ·refine fY ⟨_,rfl,_,rfl,_,rfl,_,rfl,_,rfl,_,_,rfl,rfl,_,rfl,_,rfl,by show 7<=au; omega,fun e he=>?_⟩;exact fin s5 {x.1 with b:=x.1.b - 1} e rfl (fun z=>by have:=congrArg Ev.b z; dsimp only at this; omega) he
 dsimp only [mw];refine fY ⟨_,rfl,_,rfl,k,p,[x.1.t,x.1.r,x.1.fr,x.1.c],rfl,(eC k2).2,rfl,puG,fun c bs G6 pu6 b6 hc l4 ne=>⟨_,rfl,_,rfl,_,rfl,_,rfl,_,rfl,_,rfl,by show 7<=au; omega,fun e he=>?_⟩⟩
 match bs,l4,hc,ne with
 | [t0,t1,t2,t3],_,hc,ne =>
  have nc:c≠p:=fun z=>by
   obtain ⟨y,y2,e⟩:=pu6;rw [z,e] at hc
   cases hc
  have w6:=b6.wp;obtain ⟨a1,a2,a3⟩:=tK ({x.1 with t:=t0,r:=t1,fr:=t2,c:=t3},x.2) pu6 he (k:=c) (fh hc nc) (w6 _ _ k3) (Paired.mono (fun _ _ z=>WrD.same w6 z) k4) (w6 _ _ k5) (Paired.mono (fun _ _ z=>z.same w6) k6);exact q e _ _ a1 ((bG.trans b6).same a2) a3 fun z=>ne (by rw [<- congrArg Prod.fst z])
end
end My
namespace L2
open PySem PySem.Spec PyProof.Rows PySem.SeqAt
section
variable {X:Cx}
theorem Jo (K:ae) (hK:X.K=K):SlR X (rSlT K):=by
 rw [<- hK];exact qH
theorem yi:OpR X (dZ .IsNot) (fun x y H Q=>x=.bl false/\y=.bl false/\Q (.bl false) H):=by
 intro pins s σ H x y v u Q I rx ry h;obtain ⟨rfl,rfl,q⟩:=h
 cases rx
 cases ry;exact wpAny_isNot_self rfl (eA I q rfl)
theorem Mv:OpR X (dZ .Is) (fun x y H Q=>x=.bl true/\y=.bl true/\Q (.bl true) H):=by
 intro pins s σ H x y v u Q I rx ry h;obtain ⟨rfl,rfl,q⟩:=h
 cases rx
 cases ry;exact wpAny_is_self rfl (eA I q rfl)
theorem Mw (hu:X.A.units + 50 < d8):OpR X (dZ .NotEq) (fun x y H Q=>∃ n p q xs ys b,n<=20/\x=.ref p/\y=.ref q/\H p=some (.lst xs)/\H q=some (.lst ys)/\xs.length=ys.length/\BEm H (n + 1) x y b/\Q (.bl (!b)) H):=by
 intro pins s σ H x y v u Q I rx ry h;obtain ⟨n,p,q,xs,ys,b,hn,rfl,rfl,hp,hq,ll,d,k⟩:=h
 cases rx
 cases ry;have fin:EP X pins σ Q (.bool (!b)) s:=⟨.bl _,H,I,rfl,k⟩
 rcases d with d | ⟨p',q',xs',ys',e1,e2,d⟩
 ·rcases d with (⟨_,_,e,_⟩ | ⟨_,_,e,_⟩) | ⟨_,⟨_,_,_,e,_⟩ | ⟨_,_,_,_,e,_⟩⟩ <;> cases e
 ·cases e1
  cases e2
  rcases d with ⟨h1,h2,h3,rfl⟩ | ⟨h1 | h1,hl,e,he,rfl⟩
  ·rw [hp] at h1;rw [hq] at h2
   cases h1
   cases h2;exact absurd ll h3
  ·rw [hp] at h1;rw [hq] at h1;obtain ⟨h1,h2⟩:=h1
   cases h1
   cases h2;obtain ⟨us,r1,i1⟩:=e9 I.hok hp;obtain ⟨vs,r2,i2⟩:=e9 I.hok hq;have l1:=r1.length;have l2:=r2.length;have z:=RcNeAt.lists (A:=X.A) (e:=e) i1 i2 (by rw [aB,aB]; omega) (by omega) (fun j a b=>by
    have ja:j < us.length:=by simpa using a
    have jb:j < vs.length:=by simpa using b
    have hx:xs[j]?=some (xs[j]'(by omega)):=aj _;have hy:ys[j]?=some (ys[j]'(by omega)):=aj _;obtain ⟨u,hu',ru⟩:=r1.get hx;obtain ⟨v,hv',rv⟩:=r2.get hy;have eu:us[j]=u:=(aC.mp hu').2;have ev:vs[j]=v:=(aC.mp hv').2;have z:=AN (A:=X.A.in1) I.hok (by show X.A.units + 1 + n < d8; omega) (he j _ _ hx hy) ru rv;simpa [eu,ev] using z)
   rw [aB,<- l1] at z;exact z X.prog X.w _ _ fin
  ·rw [hp] at h1
   cases h1.1
end
end L2
namespace My
open PySem L2
inductive Hc (K:ae) (vs:List V) (H:Hp) (Q:VK) (_e:XK):Prop where
 | mk (a:aa) (ns:List Int) (_:vs=[.ref a]) (_:SqL K H a (ns.map V.int)) (_:ns.length<=63) (_:(∀ x∈ns,fH x<=1048576)) (_:∀ H',Q (.bl true) H'):Hc K vs H Q _e
def B8 (K:ae):Sp:=fun vs H Q _e=>Hc K vs H Q _e
theorem Bk.own {Ms:List MD} {es:List Ev} {k:Int} {rs r:List Rec} {e e':End} (mo:rN Ms) (k0:0<=k) (a:Bk Ms es k rs e) (b:Bk Ms es (if tG e=Gy then (rs.length:Int) else rs.length + 1) r e'):r=rs/\e'=e:=by
 by_cases c:tG e=Gy
 ·rw [if_pos c] at b;have ec:=Ml c;subst ec;rw [a.cut mo k0] at b;exact b.uniq a
 ·rw [if_neg c] at b;have nc:e≠.cut:=fun z=>c (by rw [z]; rfl)
  rcases Int.le_total k ((rs.length:Int) + 1) with z | z
  ·exact b.uniq (a.more z nc)
  ·have ne:e'≠.cut:=fun y=>by
    subst y;have h1:=b.cut mo (by omega);have h2:=congrArg gD (b.pre mo (by omega) z a);rw [aT] at h2;omega
   exact (b.more z ne).uniq a
theorem Paired.rks {F:Hp} {ys:List V} {qs:List Rec} (p:aI (RcIn F) ys qs):aI (rS F) ys (qs.map iJ):=by
 induction p with
 | nil=>exact .nil
 | cons x _ ih=>exact .cons (RcIn.rk x) ih
theorem vI {H:Hp} {a:aa} (_h:H a=none) (o:HO):upd H a o a=some o:=ag
theorem Hd {xs:List V} {n:Nat} (h:n + 1=xs.length):atI xs (-1)=some (xs[n]'(by omega)):=by
 unfold atI ixN;rw [if_neg (by decide),if_pos (by omega)];show xs[((-1:Int) + xs.length).toNat]?=_;rw [show ((-1:Int) + xs.length).toNat=n by omega,aj (by omega)]
theorem Jp {xs:List V} {n:Nat} (h:n + 1=xs.length):eT xs none (some (-1))=xs.take n:=by
 unfold eT;show (xs.drop 0).take (((-1:Int) + (xs.length:Int)).toNat - 0)=_;rw [lO]
 congr 1
 omega
theorem Mx {G G':Hp} {p:aa} (pu:dS G p):bj (Hid ⟨[],G⟩ G') (Wp p G'):=fun a o e=>by
 refine fh (jf _ _ e) fun z=>?_;subst z;obtain ⟨x,y,h⟩:=pu;exact n6 e (.inr ⟨_,h,fun xs z=>by cases z⟩)
theorem mo_w {CM:aa} {Ms:List MD} {G H2 G':Hp} {m dxm ml' p:aa} (nm:G m=none) (ndx:G dxm=none) (nem:dxm≠m) (hp:G p≠none)
  (mo:C6 (Ms.length:Int) (Nw (upd (upd G dxm (.own m)) m (.ins CM dxm [])) H2) ml' Ms) (b:But p (upd H2 m (.ins CM dxm (dM "machines" (.ref ml') []))) G'):tE CM Ms (Wp p G') m:=by
 have np:∀ {a:aa},G a=none->a≠p:=fun n z=>hp (z ▸ n);refine ⟨dxm,ml',_,fh (b _ _ ag (np nm)) (np nm),rfl,mo.same fun a o e=>?_⟩;have n:(upd (upd G dxm (.own m)) m (.ins CM dxm [])) a=none:=by
  unfold Nw at e
  by_cases c:(upd (upd G dxm (.own m)) m (.ins CM dxm [])) a=none
  ·exact c
  ·rw [if_neg c] at e
   cases e
 have nam:a≠m:=fun z=>by
  rw [z,ag] at n
  cases n
 have nad:a≠dxm:=fun z=>by
  rw [z,aK nem,ag] at n
  cases n
 have ga:G a=none:=by
  rw [aK nam,aK nad] at n;exact n
 exact fh (b _ _ (by rw [aK nam]; exact nw_le _ _ e) (np ga)) (np ga)
structure Lw (CM CB:aa) (Ms:List MD) (es:List Ev) (rs:List Rec) (e:End) (m ol b dx rl et sl:aa) (F:Hp):Prop where
 rn:Rn CM Ms es F m ol
 bk:F b=some (.ins CB dx (AB (.ref rl) (.ref et) (.ref sl)))
 rc:Rcs F rl rs
 ed:vY F et (tG e)
theorem Lw.same {CM CB:aa} {Ms:List MD} {es:List Ev} {rs:List Rec} {e:End} {m ol b dx rl et sl:aa} {F G:Hp} (s:bj F G) (h:Lw CM CB Ms es rs e m ol b dx rl et sl F):Lw CM CB Ms es rs e m ol b dx rl et sl G:=⟨h.rn.same s,s _ _ h.bk,h.rc.same s,h.ed.same s⟩
section
variable {P:aL} {w:bN} {K:ae} {mg:Str->Option af} {base:cF} {f fP fT fN fLm fLv fMI fPl fIs fBt fRo CM CS CB:aa} {fd fdP fdT fdN fdLm fdLv fdMI fdPl fdIs fdBt fdRo:cw}
seal PS PSs PE PA PT PW PI PG PGs PC
abbrev nL:List Str:=["_law_script","_law_purse_here","_law_machines","_law_signs","_law_model","_law_book","_law_records","_law_k","_law_at","_law_other","_law_row_here","_law_turned","_law_last","_law_came","_law_others"]
abbrev pL:List Str:=["_law_script"]
theorem scL:cv nL pL (aQ Bn):={}
theorem ndL:((["_law_record"]:List Str)++nL).Nodup:=by decide +kernel
theorem Mz (D:Df K mg "law" Bn pL f fd) (DP:Df K mg "_law_purse" lQ pP fP fdP) (DT:Df K mg "_law_take" eO pT fT fdT) (DLv:Df K mg "_law_live" lr pLv fLv fdLv) (GLv:cm P w K mg base CX0 12 fLv fdLv pLv spLv)
  (MM_:Mk K CM fMI) (GMI:cm P w K mg base CX0 31 fMI fdMI ["self","machines"] (spMI CM 29)) (bMI:Binds K fdMI ["self","machines"] [])
  (DPl:Df K mg "plain" rF ["model","signs","most"] fPl fdPl) (GPl:cm P w K mg base CX0 40 fPl fdPl ["model","signs","most"] (t8 CM CS CB)) (DIs:Df K mg "is_book" p0 pIs fIs fdIs)
  (DBt:Df K mg "_law_bent" nY pBt fBt fdBt) (GBt:cm P w K mg base CX0 3 fBt fdBt pBt spBt) (DRo:Df K mg "_law_row" mT AU fRo fdRo)
  (TM:MdT K mg CM CS) (TB:BkT K mg CB) (B:Bl mg):cm P w K mg base CX0 42 f fd pL (B8 K):=by
 have GP:cm P w K mg base CX0 1 fP fdP pP (BX K):=F6 DP B;have GT:cm P w K mg base CX0 1 fT fdT pT lA:=jY DT B;have GIs:cm P w K mg base CX0 41 fIs fdIs pIs (spIs CM):=ok_is DIs DPl GPl TB B;have GRo:cm P w K mg base CX0 1 fRo fdRo AU GH:=GJ DRo;refine D.F.ok scL (fun vs H Q E h=>?_) (fun cdv A outer s H vs Q E hr h=>?_)
 ·obtain ⟨a,ns,rfl,_⟩:=h;rfl
 obtain ⟨sa,ns,rfl,hsa,hns,hbt,fin⟩:=h;have h50:=ET hr;have r1:d5 1 _:=hr.mono (by decide);have r3:d5 3 _:=hr.mono (by decide);have r12:d5 12 _:=hr.mono (by decide);have r32:d5 32 _:=hr.mono (by decide);have r40:d5 40 _:=hr.mono (by decide);have r41:d5 41 _:=hr;refine ⟨_,ak (aZ (i:=1) scL.nd rfl (Or.inl rfl) (aO GP r1 (by rfl) DP.m DP.F.kp DP.b .nil bY (aS (pv 0) ao)))
  (ak (qD (aO GLv r12 (by rfl) DLv.m DLv.F.kp DLv.b .nil bY (aS (pv 1) ao)) (Gk rfl (eF (cP (i:=2) scL.nd rfl (Or.inl rfl)) (eF (cP (i:=3) scL.nd rfl (Or.inl rfl)) nj))))
  (ak (aZ (i:=4) scL.nd rfl (Or.inl rfl) (pU MM_ GMI r32 (by rfl) TM.mM bMI .nil bY (aS (pv 2) ao)))
  (ak (aZ (i:=5) scL.nd rfl (Or.inl rfl) (aO GPl r40 (by rfl) DPl.m DPl.F.kp DPl.b .nil bY (aS (pv 4) (aS (pv 3) (jL (cC ff aw (aO GT r1 (by rfl) DT.m DT.F.kp DT.b .nil bY (aS (pv 1) (dR aw ao)))) ao)))))
  (ak (aZ (i:=6) scL.nd rfl (Or.inl rfl) (jF K (by rfl) (pv 5) (by rfl)))
  (ak (cS (bM Jm (aO GIs r41 (by rfl) DIs.m DIs.F.kp DIs.b .nil bY (aS (pv 4) (aS (pv 3) (aS (pv 6) (av (jF K (by rfl) (pv 5) (by rfl)) ao))))) ko (cj _)) (aF (bQ ko)) cq)
  (ak (jy dy rfl (iL (by rfl) B.range (dR aw ao)) (cP (i:=7) scL.nd rfl (Or.inl rfl)) (aF (cS (bM (qL h50) (pv 6) (dh ao) (cj _)) (ak (aZ (i:=8) scL.nd rfl (Or.inl rfl) (aO GT r1 (by rfl) DT.m DT.F.kp DT.b .nil bY (aS (pv 1) (jK (dB (eR K (by rfl)) (by rfl) B.len cG (aS (pv 6) ao)) ao))))
  (ak (aZ (i:=9) scL.nd rfl (Or.inl rfl) (aO GBt r3 (by rfl) DBt.m DBt.F.kp DBt.b .nil bY (rO (bT cV (pv 6) (pv 8) (fun _ _=>rfl)) (aS (pv 1) ao))))
  (ak (aZ (i:=10) scL.nd rfl (Or.inl rfl) (aO GRo r1 (by rfl) DRo.m DRo.F.kp DRo.b .nil bY (aS (pv 6) (aS (pv 8) (F5 (dh (aS (pv 9) ao)) ao)))))
  (ak (cS ((DX (bM (AO h50) (pv 9) (bT cV (pv 6) (pv 8) (fun _ _=>rfl)) (cj _)) (zH (bM yi (aO GIs r41 (by rfl) DIs.m DIs.F.kp DIs.b .nil bY (aS (pv 4) (aS (pv 3) (aS (pv 10) (av (jF K (by rfl) (pv 5) (by rfl)) ao))))) ko (cj _)))).pt) (aF (bQ ko)) cq)
  (ak (aZ (i:=11) scL.nd rfl (Or.inl rfl) (cC kS (cC kS (eI iu (pv 6) fX (fg (pv 8))) (eI iu (pv 6) (fg (cC ff (pv 8) aw)) fX)) (dh (rO (bT cV (pv 6) (pv 8) (fun _ _=>rfl)) ao))))
  (aF (cS ((qC (bM (Mw h50) (pv 11) (pv 6) (cj _)) (nh (bM yi (aO GIs r41 (by rfl) DIs.m DIs.F.kp DIs.b .nil bY (aS (pv 4) (aS (pv 3) (aS (pv 11) (av (jF K (by rfl) (pv 5) (by rfl)) ao))))) ko (cj _)))).pt) (aF (bQ ko)) cq))))))) cq)))
  (ak (aZ (i:=12) scL.nd rfl (Or.inr rfl) (cC kN (dB (eR K (by rfl)) (by rfl) B.len cG (aS (pv 3) ao)) aw))
  (ak (pZ (i:=13) ["_law_record"] (iG.open (NN:=nL) (N:=nL) (sc:=aQ Bn) rfl rfl (by decide +kernel) rfl (by decide +kernel) (by decide +kernel) rfl (by decide +kernel)) rfl scL.nd rfl (Or.inl rfl) (i0 (pv 6)) (fun _ _ _ _=>cP (i:=0) ndL rfl (Or.inl rfl)) (fun _ _ _ _=>HI (bM (AO h50) (eI (Jo K (by rfl)) (bT (lV K (by rfl)) (pv 0) aw (fun _ _=>rfl)) (fg aw) fX) (cR (av (wg sI aw) (aS (pv 13) ao))) (cj _))) (fun _ _ _ _=>pv 0))
  (ak (aZ (i:=14) scL.nd rfl (Or.inl rfl) (cC kS (eI iu (pv 3) fX (fg (wg sI aw))) (dh (jL (cC pX (eI qH (bT cV (pv 3) (wg sI aw) (fun _ _=>rfl)) fX (fg aw)) (cR (dR aw ao))) ao))))
  (ak (cS ((qC (bM (qL h50) (pv 13) (dh ao) (cj _)) (nh (bM yi (aO GIs r41 (by rfl) DIs.m DIs.F.kp DIs.b .nil bY (aS (pv 4) (aS (pv 14) (aS (pv 6) (av (jF K (by rfl) (pv 5) (by rfl)) ao))))) ko (cj _)))).pt) (aF (bQ ko)) cq)
  (aF (bQ (nv Mv (aO GIs r41 (by rfl) DIs.m DIs.F.kp DIs.b .nil bY (aS (pv 4) (aS (pv 3) (aS (pv 6) (av (jF K (by rfl) (pv 5) (by rfl)) ao))))) ko (cj _)))))))))))))),?_⟩
 have big:100000 < au:=by decide
 -- the purse, the machines and the signs
 refine bR (cI ?_);refine ⟨_,rfl,sa,ns,rfl,hsa,hns,hbt,fun p H1 np pu1 s1=>?_⟩;refine aU ?_;dsimp only;refine bR (cI ?_);refine ⟨_,rfl,p,rfl,pu1,fun l ml ol xs svs Ms es H2 hl hml hMs m0 m4 hol hsv les es0 e50 hes nml nol pu2 b2=>?_⟩;refine ⟨l,_,rfl,SqL.of hl,rfl,_,_,rfl,_,_,rfl,rfl,?_⟩;dsimp only
 -- the bJ
 refine bR (cI (Ay ?_));refine ⟨_,rfl,fun m dxm hm hdx ndx=>?_⟩;have sA:bj H2 (upd (upd H2 dxm (.own m)) m (.ins CM dxm [])):=fun b o e=>by
  rw [aK (aG e hm),aK (aG e hdx)];exact e
 have hMs2:aI (MIn Ms.length H1 (upd (upd H2 dxm (.own m)) m (.ins CM dxm []))) xs Ms:=Paired.mono (fun v M z=>by
  obtain ⟨t,e,y⟩:=z;exact ⟨t,e,y.same sA⟩) hMs
 refine ⟨m,dxm,.ref ml,rfl,ag,Jg (sA _ _ hml) hMs2 (by omega),fun v' G5 s5 al=>⟨rfl,?_⟩⟩;obtain ⟨ml',rfl,hMo⟩:=Jh (sA _ _ hml) hMs2 al;have s46:bj H2 (upd G5 m (.ins CM dxm (dM "machines" (.ref ml') []))):=vn (sA.trans s5) hm _;refine aU ?_;dsimp only
 -- the book
 refine bR (cI ?_);refine ⟨_,rfl,_,rfl,_,rfl,p,12,rfl,pu2.same s46,by decide,by decide,fun k G7 k0 k12 pu7 b7=>⟨_,_,rfl,rfl,?_⟩⟩;have hp2:H2 p≠none:=fun z=>by
  obtain ⟨x,y,e⟩:=pu2;rw [z] at e
  cases e
 have R:Rn CM Ms es (Wp p G7) m ol:=⟨mo_w hm hdx ndx hp2 hMo b7,by omega,⟨svs,fh (b7 _ _ (s46 _ _ hol) nol) nol,Paired.mono (fun v e z=>by
  obtain ⟨t',e',h⟩:=z.same s46;have h':=d7.but (pu2.same s46) b7 _ _ h (kn _);refine ⟨t',e',fh h' fun z=>?_⟩;obtain ⟨x,y,h2⟩:=pu7;rw [z,h2] at h'
  cases h') hsv⟩,les,hes⟩
 clear b7 s46 hMo al s5 hMs2 sA hm hdx ndx hsv hol hMs hml hl b2 pu2 pu1 s1;have mo:=R.mo.ok;have mll:=R.mo.ml;refine rM ?_;show t8 CM CS CB [V.ref m,V.ref ol,V.int (1 + k)] _ _ _;refine pl_h (R.same (hZ _ _)) (by omega) fun G8 b dx rl sl et rs e s8 bk g1 g2 g3=>?_;have hw:=Mx (G':=G8) pu7;have L:Lw CM CB Ms es rs e m ol b dx rl et sl (Wp p G8):=⟨R.same (eD s8),hw _ _ g1,g2.same hw,g3.same hw⟩;have pu8:=pu7.same s8;clear hw g1 g2 g3 s8 pu7 R;have k0':0<=1 + k:=by omega
 have few:=bk.few mo k0';have sm:=bk.sm mo mll;refine aU ?_;dsimp only;refine bR (cI ⟨_,rfl,b,CB,dx,_,_,rfl,(eC L.bk).2,TB.cl,TB.nR,LA _ _ _,aU ?_⟩);dsimp only;refine bR ?_;refine ⟨_,rfl,_,rfl,_,rfl,_,rfl,b,CB,dx,_,_,rfl,(eC L.bk).2,TB.cl,TB.nE,AC _ _ _,?_⟩;refine rM ?_;refine ⟨Ms,es,m,ol,rl,et,rs.map iJ,tG e,rfl,L.rn.same (hZ _ _),(L.rc.same (hZ _ _)).rk,by rw [ai]; omega,L.ed.same (hZ _ _),fun G9 r e' bb s9 bk' ib=>?_⟩;rw [ai] at bk';obtain ⟨rfl,rfl⟩:=bk.own mo k0' bk'
 cases (ib.mpr ⟨rfl,rfl⟩:bb=true);refine ⟨rfl,rfl,_,rfl,?_⟩;refine gi ?_;dsimp only [mw];have L9:=L.same (eD s9);have pu9:=pu8.same s9;clear L pu8 s9 ib bk'
 -- six turns
 refine bR ⟨6,rfl,by decide,by decide,?_⟩;refine kH (n:=6) (fun i σ G=>∃ u7 u8 u9 u10 u11:Option V,σ=[some (.ref sa),some (.ref p),some (.ref ml),some (.ref ol),some (.ref m),some (.ref b),some (.ref rl),u7,u8,u9,u10,u11,none,none,none]/\dS G p/\bj (Wp p G9) (Wp p G)) ⟨_,_,_,_,_,rfl,pu9,bj.refl _⟩ ?_ ?_
 ·rintro i σ G hi ⟨u7,u8,u9,u10,u11,rfl,puG,sG⟩;refine aU ?_;dsimp only;have LG:=L9.same sG;obtain ⟨xs,hx,px⟩:=id LG.rc;have lx:=aX px;refine jQ ⟨_,rfl,by show 0<=au; omega,fun e0 he0=>?_⟩;have u0:=aA he0 (.lst []);refine ⟨rl,e0,xs,rfl,rfl,u0 _ _ (eC hx).2,ag,_,rfl,gS (fun ne=>?_) (fun _=>⟨_,_,_,_,_,rfl,puG.same u0,sG.trans (eD u0)⟩)⟩;have ne0:0 < xs.length:=by
   cases xs with
   | nil=>cases ne
   | cons y ys=>exact fJ _
  refine bR (cI ⟨_,rfl,_,rfl,rl,_,rfl,.inl (SqL.of (u0 _ _ (eC hx).2)),p,_,rfl,puG.same u0,by omega,by omega,fun j G3 j0 jl pu3 b3=>aU ?_⟩);dsimp only;obtain ⟨j,rfl⟩:∃ i:Nat,j=i:=⟨j.toNat,by omega⟩;have jx:j < xs.length:=by omega
  have jr:j < r.length:=by omega
  have s3:=(eD (p:=p) u0).trans b3.wp;have hat:=gR (aj jx);have smj:=(sm r[j] (gH jr)).1;refine bR (cI ⟨_,rfl,_,rfl,rl,_,_,xs[j],rfl,rfl,SqL.of (eC (s3 _ _ hx)).2,hat,_,rfl,xs[j],p,iJ r[j],rfl,(RcIn.rk (oj px jx jr)).same s3,smj.w,smj.q,smj.o,pu3,fun c y G4 pu4 b4 hy ny=>aU ?_⟩);dsimp only;have s4:=s3.trans b4.wp;refine bR (cI ⟨_,rfl,_,rfl,_,rfl,by show 1<=au; omega,fun e5 he5=>?_⟩);have u5:=aA he5 (.lst [.ref c]);refine ⟨rl,e5,j,xs,[.ref c],rfl,u5 _ _ (eC (s4 _ _ hx)).2,ag,jx,by omega,by show 1<=9000; omega,fun c2 G6 s6 n2 hc2=>aU ?_⟩;dsimp only;have s56:=eD (p:=p) (u5.trans s6);have sG6:=s4.trans s56;have L6:=LG.same sG6;have pu6:=pu4.same (u5.trans s6);have pk:=Paired.mono (fun _ _ z=>rS.same sG6 z) (Paired.rks px);have row:Rks (Wp p G6) c2 ((r.map iJ).take j++[y]++(r.map iJ).drop (j + 1)):=⟨_,fh hc2 (jg (pu4.same u5) n2),AX j pk (.cons (hy.same s56) .nil)⟩;have nrow:(r.map iJ).take j++[y]++(r.map iJ).drop (j + 1)≠r.map iJ:=AW (by rw [ai]; exact jr) fun z=>ny (by
   have:=(dY z).1;rw [hW] at this;exact this)
  have hy6:=hy.same s56;have hx6:=sG6 _ _ hx;clear s56 u5 he5 hc2 n2 hy b4 pu4 s6 s4 s3 b3 u0 he0 pu3;obtain ⟨rc,_,_,_,_,_,erc,_⟩:=id (RcIn.rk (oj px jx jr));refine bR (jQ ⟨_,rfl,_,rfl,_,rfl,rl,_,_,xs[j],rfl,rfl,SqL.of (eC hx6).2,hat,?_⟩);obtain ⟨bb,hb,eb⟩:=Kg (n:=0) (hy6.same (hZ _ _)) (((RcIn.rk (oj px jx jr)).same sG6).same (hZ _ _));have bf:bb=false:=by
   cases bb with
   | false=>rfl
   | true=>exact absurd (eb.mp rfl) ny
  refine ⟨4,c,rc,bb,by decide,rfl,erc,hb,_,rfl,?_⟩;rw [bf];refine gi ?_;refine ⟨_,rfl,_,rfl,_,rfl,_,rfl,b,CB,dx,_,_,rfl,(eC L6.bk).2,TB.cl,TB.nE,AC _ _ _,?_⟩;refine rM ?_;have ln:∀ {zs:List Rk},zs.length=r.length->zs.length<=900:=fun z=>by omega
  have l1:((r.map iJ).take j++[y]++(r.map iJ).drop (j + 1)).length=r.length:=by
   rw [ax,ax,aT,cN,ai];show min j r.length + 1 + (r.length - (j + 1))=r.length;omega
  refine ⟨Ms,es,m,ol,c2,et,_,tG e',rfl,L6.rn.same (hZ _ _),row.same (hZ _ _),ln l1,L6.ed.same (hZ _ _),fun G7 r' e7 bb s7 bk' ib=>?_⟩;have bf2:bb=false:=by
   cases bb with
   | false=>rfl
   | true=>exact absurd (ib.mp rfl).1 (xj mo bk k0' bk' (by split <;> omega) l1 nrow)
  rw [bf2];refine ⟨rfl,rfl,_,rfl,?_⟩;refine gi ?_;dsimp only [mw];have L7:=L6.same (eD s7);have s9G:=sG6.trans (eD s7);have pu7:=pu6.same s7;have hx7:=(eC (s9G _ _ hx)).2;clear ib bk' hb eb bf bf2 row nrow hy6 s7 hx6 L6 pu6 sG6 pk;refine bR (cI ⟨_,rfl,_,rfl,_,rfl,rl,_,rfl,SqL.of hx7,fun e1 he1=>?_⟩);have v1:=aA he1 (.lst (eT xs none (some (j:Int))));refine ⟨_,rfl,_,rfl,_,_,rfl,rfl,_,rfl,rl,_,rfl,SqL.of (v1 _ _ hx7),fun e2 he2=>?_⟩;have v2':=aA he2 (.lst (eT xs (some ((j:Int) + 1)) none));have v2:=v1.trans v2';have ec:=qe (xs:=xs) (k:=j) (by omega);have ed:eT xs (some ((j:Int) + 1)) none=xs.drop (j + 1):=by
   rw [show (j:Int) + 1=((j + 1:Nat):Int) by omega];exact m8 (by omega)
  refine ⟨e1,e2,_,_,rfl,rfl,v2' _ _ ag,ag,by rw [ec,ed,aT,cN]; omega,fun e3 he3=>?_⟩;have v3:=v2.trans (aA he3 (.lst (eT xs none (some (j:Int))++eT xs (some ((j:Int) + 1)) none)));refine ⟨_,rfl,_,rfl,rl,_,_,xs[j],rfl,rfl,SqL.of (v3 _ _ hx7),hat,by show 1<=au; omega,fun e4 he4=>?_⟩;have v4':=aA he4 (.lst [xs[j]]);have v4:=v3.trans v4';refine ⟨e3,e4,_,_,rfl,rfl,v4' _ _ ag,ag,by rw [ec,ed,ax,aT,cN]; show min j xs.length + (xs.length - (j + 1)) + 1<=_; omega,fun e5 he5=>aU ?_⟩;have v5':=aA he5 (.lst (eT xs none (some (j:Int))++eT xs (some ((j:Int) + 1)) none++[xs[j]]));have v5:=v4.trans v5';have q5:=vI he5 (.lst (eT xs none (some (j:Int))++eT xs (some ((j:Int) + 1)) none++[xs[j]]));have n5:e5≠p:=jg (pu7.same v4) he5;revert v5 q5;generalize upd _ e5 (.lst (eT xs none (some (j:Int))++eT xs (some ((j:Int) + 1)) none++[xs[j]]))=G8;rw [ec,ed];intro v5 q5;dsimp only;have L8:=L7.same (eD v5);have s8:=s9G.trans (eD v5);have pu8:=pu7.same v5;have pk:=Paired.mono (fun _ _ z=>rS.same s8 z) (Paired.rks px);have row:Rks (Wp p G8) e5 ((r.map iJ).take j++(r.map iJ).drop (j + 1)++[iJ r[j]]):=⟨_,fh q5 n5,tJ (tJ (rT j pk) (qg (j + 1) pk)) (.cons ((RcIn.rk (oj px jx jr)).same s8) .nil)⟩;have l2:((r.map iJ).take j++(r.map iJ).drop (j + 1)++[iJ r[j]]).length=r.length:=by
   rw [ax,ax,aT,cN,ai];show min j r.length + (r.length - (j + 1)) + 1=r.length;omega
  obtain ⟨bb,hb,eb⟩:=AS (row.same (hZ _ _)) (L8.rc.rk.same (hZ _ _));refine jQ ⟨_,rfl,_,rfl,4,e5,rl,_,xs,bb,by decide,rfl,rfl,q5,v5 _ _ hx7,?_,hb,_,rfl,gS (fun ne2=>?_) (fun _=>gi ⟨_,_,_,_,_,rfl,pu8,sG.trans s8⟩)⟩
  ·rw [ax,ax,aT,cN];show min j xs.length + (xs.length - (j + 1)) + 1=xs.length;omega
  have nrow:(r.map iJ).take j++(r.map iJ).drop (j + 1)++[iJ r[j]]≠r.map iJ:=fun z=>by
   rw [eb.mpr z] at ne2
   cases ne2
  refine ⟨_,rfl,_,rfl,_,rfl,_,rfl,b,CB,dx,_,_,rfl,(eC L8.bk).2,TB.cl,TB.nE,AC _ _ _,?_⟩;refine rM ?_;refine ⟨Ms,es,m,ol,e5,et,_,tG e',rfl,L8.rn.same (hZ _ _),row.same (hZ _ _),ln l2,L8.ed.same (hZ _ _),fun G9' r' e'' b2 s9' bk' ib=>?_⟩;have bf2:b2=false:=by
   cases b2 with
   | false=>rfl
   | true=>exact absurd (ib.mp rfl).1 (xj mo bk k0' bk' (by split <;> omega) l2 nrow)
  rw [bf2];refine ⟨rfl,rfl,_,rfl,gi ?_⟩;exact ⟨_,_,_,_,_,rfl,pu8.same s9',(sG.trans s8).trans (eD s9')⟩
 ·rintro σ G ⟨u7,u8,u9,u10,u11,rfl,puG,sG⟩;have L:=L9.same (sG.trans (hZ _ _));clear L9 sG puG pu9 sm;obtain ⟨svs,hsv,psv⟩:=id L.rn.sg;have lsv:=aX psv;obtain ⟨n,hn⟩:∃ n,n + 1=es.length:=⟨es.length - 1,by omega⟩;obtain ⟨xs,hx,px⟩:=id L.rc;have lx:=aX px;dsimp only;refine bR (cI ⟨_,rfl,ol,_,rfl,.inl (SqL.of hsv),_,_,rfl,rfl,aU ?_⟩);dsimp only
  -- the records that came by the last sign
  refine bR (cI ?_);refine qO (K:=K) (a:=rl) (xs:=xs) (fun R h=>⟨_,rfl,h⟩) (SqL.of hx) (fun i ys G'=>(ys≠[]->∃ q∈r,q.h.fr=-1/\q.h.c=n)/\ys.length<=i/\bj G G') ⟨fun z=>absurd rfl z,aE _,bj.refl _⟩ ?_ ?_ ?_
  ·rintro i ys G' hi ⟨_,h2,s'⟩;exact ⟨SqL.of (s' _ _ hx),by omega⟩
  ·rintro i v ys G' hi ⟨h1,h2,s'⟩;obtain ⟨q,hq,hv⟩:=qQ px hi;obtain ⟨rc,k',_,_,_,_,rfl,j1,j2,_⟩:=RcIn.rk hv;refine ⟨rfl,?_⟩;refine ⟨_,rfl,rc,_,_,.ref k',rfl,rfl,SqT.of (s' _ _ j1),rfl,_,rfl,k',_,rfl,SqT.of (s' _ _ j2),fun z=>absurd z.1 (show ¬ HT.sIx 4 0 (some 2)=0 by decide),fun e1 he1=>?_⟩;have t1:=aA he1 (.tup [.int q.h.fr,.int q.h.c]);refine ⟨1,rfl,_,rfl,by show 2<=au; omega,fun e2 he2=>?_⟩;have t2:=aA he2 (.tup [.int (-1),.int ((svs.length:Int) - 1)]);obtain ⟨bb,hb,eb⟩:=yh (n:=0) (as:=[q.h.fr,q.h.c]) (bs:=[-1,(svs.length:Int) - 1]) (t2 _ _ ag) (vI he2 _) rfl;have s2:=(s'.trans t1).trans t2;refine ⟨1,e1,e2,bb,by decide,rfl,rfl,hb,_,rfl,?_⟩
   cases bb with
   | true =>
    refine iF ⟨_,rfl,fun _=>⟨q,bX hq,?_⟩,by rw [ax]; show ys.length + 1<=i + 1; omega,s2⟩;have z:=eb.mp rfl;simp only [BJ,and_true] at z;exact ⟨z.1,by omega⟩
   | false=>exact gi ⟨h1,by omega,s2⟩
  rintro ys G1 ⟨came,ly,s1⟩ ca hca;have t1:=aA hca (.lst ys);have hca':=vI hca (.lst ys);have S1:=s1.trans t1;revert hca' S1;generalize upd G1 ca (.lst ys)=G2;intro hca S1;clear t1 s1;have L2:=L.same S1;have hsv2:=S1 _ _ hsv;have psv2:=Paired.mono (fun _ _ z=>vt.same S1 z) psv;clear S1 hx hsv psv L px;refine aU ?_;dsimp only
  -- other signs
  have nsv:n < svs.length:=by omega
  have nes:n < es.length:=by omega
  obtain ⟨st,est,hst⟩:=oj psv2 nsv nes;refine bR (cI ⟨_,rfl,1,rfl,-1,rfl,ol,svs,rfl,SqL.of hsv2,fun e1 he1=>?_⟩);have t1:=aA he1 (.lst (eT svs none (some (-1))));refine ⟨_,rfl,1,rfl,ol,svs,-1,svs[n],rfl,rfl,SqL.of (t1 _ _ hsv2),Hd (by omega),_,rfl,st,_,est,SqT.of (t1 _ _ hst),fun z=>absurd z.2 (show ¬ HT.sIx 6 6 (some 5)=6 by decide),fun e2 he2=>⟨by show 1<=au; omega,fun e3 he3=>?_⟩⟩;have t2:=aA he2 (.tup [.int es[n].t,.int es[n].r,.int es[n].to,.str es[n].sg,.int es[n].a]);have t3:=aA he3 (.tup [.int 51]);refine ⟨e2,e3,[.int es[n].t,.int es[n].r,.int es[n].to,.str es[n].sg,.int es[n].a],[.int 51],rfl,rfl,SqT.of (t3 _ _ ag),SqT.of ag,by simp,by show 6<=au; omega,(fun z=>by cases z),fun _ e4 he4=>⟨by show 1<=au; omega,fun e5 he5=>?_⟩⟩;have t4:=aA he4 (.tup [.int es[n].t,.int es[n].r,.int es[n].to,.str es[n].sg,.int es[n].a,.int 51]);have t5:=aA he5 (.lst [.ref e4]);have ecn:=Jp (xs:=svs) (n:=n) (by omega);refine ⟨e1,e5,_,_,rfl,rfl,(((t2.trans t3).trans t4).trans t5) _ _ ag,ag,by rw [ecn,aT]; show min n svs.length + 1<=_; omega,fun e6 he6=>aU ?_⟩;have t6:=aA he6 (.lst (eT svs none (some (-1))++[.ref e4]));have S6:=((((t1.trans t2).trans t3).trans t4).trans t5).trans t6;have q6:=vI he6 (.lst (eT svs none (some (-1))++[.ref e4]));have q4:=(t5.trans t6) _ _ (vI he4 (.tup [.int es[n].t,.int es[n].r,.int es[n].to,.str es[n].sg,.int es[n].a,.int 51]));revert S6 q6 q4;generalize upd _ e6 (.lst (eT svs none (some (-1))++[.ref e4]))=G6;rw [ecn];intro S6 q6 q4;clear t1 t2 t3 t4 t5 t6 he1 he2 he3 he4 he5 he6;dsimp only;have L6:=L2.same S6;refine Do (fun σ' G=>σ'=[some (.ref sa),some (.ref p),some (.ref ml),some (.ref ol),some (.ref m),some (.ref b),some (.ref rl),u7,u8,u9,u10,u11,some (.int ((svs.length:Int) - 1)),some (.ref ca),some (.ref e6)]/\bj G6 G) ?_ ?_
  ·rintro _ G7 ⟨rfl,s7⟩;have L7:=L6.same s7;refine fY ⟨_,rfl,_,rfl,_,rfl,_,rfl,b,CB,dx,_,_,rfl,L7.bk,TB.cl,TB.nE,AC _ _ _,?_⟩;refine rM ?_;refine ⟨Ms,es,m,ol,rl,et,r.map iJ,tG e',rfl,L7.rn,L7.rc.rk,by rw [ai]; omega,L7.ed,fun G8 r' e8 bb s8 bk' ib=>?_⟩;rw [ai] at bk';obtain ⟨rfl,rfl⟩:=bk.own mo k0' bk'
   cases (ib.mpr ⟨rfl,rfl⟩:bb=true);exact ⟨rfl,rfl,fin _⟩
  ·intro N hN;refine jQ ⟨_,rfl,by show 0<=au; omega,fun e0 he0=>?_⟩;have t0:=aA he0 (.lst []);refine ⟨ca,e0,ys,rfl,rfl,t0 _ _ (S6 _ _ hca),ag,_,rfl,gS (fun ne=>?_) (fun _=>gi (hN _ _ ⟨rfl,t0⟩))⟩;have L7:=L6.same t0;obtain ⟨q,hq,qf,qc⟩:=came (fun z=>by rw [z] at ne; cases ne);refine ⟨_,rfl,_,rfl,_,rfl,_,rfl,b,CB,dx,_,_,rfl,L7.bk,TB.cl,TB.nE,AC _ _ _,?_⟩;refine rM ?_;have hes':∀ e∈es.take n++[{es[n] with b:=51}],zk Ms.length e:=fun e he=>by
    rcases bU.mp he with z | z
    ·exact hes e (qA z)
    ·rw [aH.mp z];have h:=hes _ (gH nes);exact ⟨h.to0,h.to1,h.wt,h.wa,iS ⟨by show (-1000000:Int)<=51; decide,by show (51:Int)<=1000000; decide⟩⟩
   have R':Rn CM Ms (es.take n++[{es[n] with b:=51}]) (upd G6 e0 (.lst [])) m e6:=⟨L7.rn.mo,L7.rn.lm,⟨_,t0 _ _ q6,tJ (rT n (Paired.mono (fun _ _ z=>vt.same (S6.trans t0) z) psv2)) (.cons ⟨e4,rfl,t0 _ _ q4⟩ .nil)⟩,by rw [ax,aT]; show min n es.length + 1 < 64; omega,hes'⟩;refine ⟨Ms,_,m,e6,rl,et,r.map iJ,tG e',rfl,R',L7.rc.rk,by rw [ai]; omega,L7.ed,fun G8 r' e8 bb s8 bk' ib=>?_⟩;have bf:bb=false:=by
    cases bb with
    | false=>rfl
    | true =>
     have z:=Jl (ib.mp rfl).1;rw [z] at bk';exact (AY mo mll bk bk' (n:=n) (aj nes) (x':={es[n] with b:=51}) (by rw [c9 (by rw [aT]; omega),aT,iy (by omega),um]; rfl) (by have:=e50 _ (gH nes); show es[n].b≠51; omega) hq qf qc).elim
   rw [bf];exact ⟨rfl,rfl,_,rfl,gi (hN _ _ ⟨rfl,t0.trans s8⟩)⟩
end
def yj (CN CG CU CY CP CL:aa):Flt->aa
 | .nought=>CN
 | .great=>CG
 | .full=>CU
 | .dry=>CY
 | .span=>CP
 | .late=>CL
end My
namespace My
theorem B9 {P:Flt->Prop} (a:P .nought) (b:P .great) (c:P .full) (d:P .dry) (e:P .span) (f:P .late):∀ x,P x
 | .nought=>a
 | .great=>b
 | .full=>c
 | .dry=>d
 | .span=>e
 | .late=>f
end My
namespace My
open PySem L2
theorem rW {α:Type} {n:Nat} {us:List α} (h:us.length=n + 1):∃ a l,us=a :: l/\l.length=n:=by
 cases us with
 | nil=>cases h
 | cons a l=>exact ⟨a,l,rfl,Nat.succ.inj h⟩
theorem yk {α:Type} {us:List α} (h:us.length=1):∃ a,us=[a]:=by
 obtain ⟨a,l,rfl,h⟩:=rW h
 cases l with
 | nil=>exact ⟨a,rfl⟩
 | cons b l=>cases h
theorem yl {α:Type} {us:List α} (h:us.length=2):∃ a b,us=[a,b]:=by
 obtain ⟨x,l,rfl,h'⟩:=rW h;obtain ⟨a1,rfl⟩:=yk h';exact ⟨x,a1,rfl⟩
theorem ym {α:Type} {us:List α} (h:us.length=3):∃ a b c,us=[a,b,c]:=by
 obtain ⟨x,l,rfl,h'⟩:=rW h;obtain ⟨a1,b1,rfl⟩:=yl h';exact ⟨x,a1,b1,rfl⟩
theorem yn {α:Type} {us:List α} (h:us.length=4):∃ a b c d,us=[a,b,c,d]:=by
 obtain ⟨x,l,rfl,h'⟩:=rW h;obtain ⟨a1,b1,c1,rfl⟩:=ym h';exact ⟨x,a1,b1,c1,rfl⟩
theorem Ca {α:Type} {us:List α} (h:us.length=5):∃ a b c d e,us=[a,b,c,d,e]:=by
 obtain ⟨x,l,rfl,h'⟩:=rW h;obtain ⟨a1,b1,c1,d1,rfl⟩:=yn h';exact ⟨x,a1,b1,c1,d1,rfl⟩
def Dn (K:ae) (x:Str) (st:dJ) (f:aa):Prop:=cE K bP x=some (some (.ref f))/\∃ fd,Fun K x x st f fd
def Mn (K:ae) (C:aa) (x q:Str) (st:dJ) (f:aa):Prop:=(aV K (.ref C) x=some (some (.ref f))/\nA K (.ref f)=true)/\∃ fd,Fun K x q st f fd
structure Cn (K:ae) (C:aa):Prop where
 c:Cls K C
 m:uc K C=true
 k:gB K (.ref C)=true
theorem dn_i {K:ae} {x:Str} {st:dJ} {f:aa} {oc:af} {od an:Option aa} {sl:Array (Option af)} {kV dc pm cd ct:af} (a:cE K bP x=some (some (.ref f))) (l:K.lookup f=some ⟨oc,od,.func (eW x x (kC st) (i5 st) (aQ st) .none kV dc pm an cd ct),sl⟩) (c:jz K cd x=true) (k:gB K (.ref f)=true):Dn K x st f:=⟨a,_,EF l c k⟩
theorem mn_i {K:ae} {x q:Str} {st:dJ} {f C:aa} {oc:af} {od an:Option aa} {sl:Array (Option af)} {kV dc pm cd ct:af} (a:aV K (.ref C) x=some (some (.ref f))) (i:nA K (.ref f)=true) (l:K.lookup f=some ⟨oc,od,.func (eW x q (kC st) (i5 st) (aQ st) .none kV dc pm an cd ct),sl⟩) (c:jz K cd q=true) (k:gB K (.ref f)=true):Mn K C x q st f:=⟨⟨a,i⟩,_,EF l c k⟩
theorem dfx {K:ae} {h:cF} {mg:Str->Option af} {x:Str} {st:dJ} {f:aa} (ps:List Str) (X:K.In h) (G:h.Ns bP mg) (a:Dn K x st f) (hb:∀ (kV doc pm:af) (an:Option aa) (cdv ct:af) (us:List af),us.length=ps.length->zS (eW x x (kC st) (i5 st) (aQ st) .none kV doc pm an cdv ct) ⟨us,[]⟩=pure (ps.zip us):=by intro _ _ _ _ _ _ us hl; first | (obtain ⟨a,rfl⟩:=yk hl; rfl) | (obtain ⟨a,b,rfl⟩:=yl hl; rfl) | (obtain ⟨a,b,c,rfl⟩:=ym hl; rfl) | (obtain ⟨a,b,c,d,rfl⟩:=yn hl; rfl) | (obtain ⟨a,b,c,d,e,rfl⟩:=Ca hl; rfl)):∃ fd,Df K mg x st ps f fd:=by
 obtain ⟨a,fd,F⟩:=a;exact ⟨fd,F,F.binds hb,eJ X G a⟩
theorem mfx {K:ae} {x q:Str} {st:dJ} {f C:aa} (ps:List Str) (a:Mn K C x q st f) (hb:∀ (kV doc pm:af) (an:Option aa) (cdv ct:af) (us:List af),us.length=ps.length->zS (eW x q (kC st) (i5 st) (aQ st) .none kV doc pm an cdv ct) ⟨us,[]⟩=pure (ps.zip us):=by intro _ _ _ _ _ _ us hl; first | (obtain ⟨a,rfl⟩:=yk hl; rfl) | (obtain ⟨a,b,rfl⟩:=yl hl; rfl) | (obtain ⟨a,b,c,rfl⟩:=ym hl; rfl) | (obtain ⟨a,b,c,d,rfl⟩:=yn hl; rfl) | (obtain ⟨a,b,c,d,e,rfl⟩:=Ca hl; rfl)):∃ fd,Fun K x q st f fd/\Binds K fd ps []/\xx K C x f:=by
 obtain ⟨⟨a,i⟩,fd,F⟩:=a;exact ⟨fd,F,F.binds hb,a,i,F.kp⟩
theorem law_b {K:ae} {x q:Str} {st:dJ} {f:aa} {fd:cw} {y:Str} (F:Fun K x q st f fd) (hb:∀ (kV doc pm:af) (an:Option aa) (cdv ct v:af),zS (eW x q (kC st) (i5 st) (aQ st) .none kV doc pm an cdv ct) ⟨[v],[]⟩=pure [(y,v)]) (s:ar) (v:af):tP s fd ⟨[v],[]⟩ [(y,v)]:=by
 obtain ⟨oc,od,kV,doc,pm,an,cdv,ct,osl,rfl,_⟩:=F.ex;exact .of_eq (hb kV doc pm an cdv ct v)
theorem all_mk {l:uh} {w:bN} {K:ae} {h:cF} {mg:Str->Option af} {fa f1 f2 f3 f4 f5 f6 f7 f8 f9 f10 f11 f12 f13 f14 f15 f16 f17 f18 f19 f20 f21 f22 f23 f24 f25 f26 f27 f28 f29 f30 f31 f32 f33 f34 f35 f36 CM f37 CS f38 f39 CD f40 f41 f42 f43 f44 CB f45 CC f46 f47 f48 CN CG CU CY CP CL CF:aa} {f100 f101 f102 f103 f104 f105:aa} (X:K.In h) (G:h.Ns bP mg) (hfa:mg "law"=some (.ref fa))
  (a1:Dn K "worth_of" kZ f1) (a2:Dn K "number_of_leaf" gz f2) (a3:Dn K "number_of_two" gO f3) (a4:Dn K "number_of_division" d9 f4) (a5:Dn K "done" xV f5) (a6:Dn K "doing_of" nU f6) (a7:Dn K "deeds_by_sign" ia f7) (a8:Dn K "writes_of" lP f8) (a9:Dn K "do_deeds" iH f9) (a10:Dn K "do_deed" mJ f10) (a11:Dn K "do_push" mK f11) (a12:Dn K "do_pull" mO f12) (a13:Dn K "do_draw" mP f13) (a14:Dn K "do_send" mQ f14) (a15:Dn K "copied" mR f15) (a16:Dn K "first_state" jV f16) (a17:Dn K "place_in" nX f17) (a18:Dn K "put_in" rD f18) (a19:Dn K "pending_at_first" gE f19) (a20:Dn K "course_at_first" gU f20) (a21:Dn K "run_on" rE f21) (a22:Dn K "plain" rF f22) (a23:Dn K "is_book" p0 f23) (a24:Dn K "_law_purse" lQ f24) (a25:Dn K "_law_take" eO f25) (a26:Dn K "_law_names" jj f26) (a27:Dn K "_law_small" jm f27) (a28:Dn K "_law_live_deed" gP f28) (a29:Dn K "_law_live_deeds" hV f29) (a30:Dn K "_law_live_machine" eP f30) (a31:Dn K "_law_live" lr f31) (a32:Dn K "_law_row" mT f32) (a33:Dn K "_law_bent_write" iQ f33) (a34:Dn K "_law_bent_key" jD f34) (a35:Dn K "_law_bent" nY f35) (a36:Dn K "law" Bn f36) (aCM:cE K bP "Model"=some (some (.ref CM))) (a37:Mn K CM "__init__" "Model.__init__" nV f37) (pCM:Cn K CM) (nCMmachines:aV K (.ref CM) "machines"=some none) (aCS:cE K bP "State"=some (some (.ref CS))) (a38:Mn K CS "__init__" "State.__init__" jB f38) (a39:Mn K CS "copy" "State.copy" jC f39) (pCS:Cn K CS) (nCSboxes:aV K (.ref CS) "boxes"=some none) (nCSqueues:aV K (.ref CS) "queues"=some none) (nCSdrawn:aV K (.ref CS) "drawn"=some none) (nCSsent:aV K (.ref CS) "sent"=some none) (aCD:cE K bP "Doing"=some (some (.ref CD))) (a40:Mn K CD "__init__" "Doing.__init__" nK f40) (a41:Mn K CD "now" "Doing.now" ji f41) (a42:Mn K CD "reckon" "Doing.reckon" eX f42) (a43:Mn K CD "queue_of" "Doing.queue_of" eQ f43) (a44:Mn K CD "fill" "Doing.fill" gT f44) (pCD:Cn K CD) (nCDmachine:aV K (.ref CD) "machine"=some none) (nCDhappening:aV K (.ref CD) "happening"=some none) (nCDstate:aV K (.ref CD) "state"=some none) (nCDwritten:aV K (.ref CD) "written"=some none) (nCDoutgoing:aV K (.ref CD) "outgoing"=some none) (nCDends:aV K (.ref CD) "ends"=some none) (nCDreckoned:aV K (.ref CD) "reckoned"=some none) (nCDqueued:aV K (.ref CD) "queued"=some none) (aCB:cE K bP "Book"=some (some (.ref CB))) (a45:Mn K CB "__init__" "Book.__init__" pC f45) (pCB:Cn K CB) (nCBrecords:aV K (.ref CB) "records"=some none) (nCBending:aV K (.ref CB) "ending"=some none) (nCBstates:aV K (.ref CB) "states"=some none) (aCC:cE K bP "Course"=some (some (.ref CC))) (a46:Mn K CC "__init__" "Course.__init__" me f46) (a47:Mn K CC "ending_due" "Course.ending_due" gk f47) (a48:Mn K CC "do_one" "Course.do_one" ic f48) (pCC:Cn K CC) (nCCmodel:aV K (.ref CC) "model"=some none) (nCCstates:aV K (.ref CC) "states"=some none) (nCCpending:aV K (.ref CC) "pending"=some none) (nCCreached:aV K (.ref CC) "reached"=some none) (nCCstopped:aV K (.ref CC) "stopped"=some none) (aCN:cE K bP "Nought"=some (some (.ref CN))) (xCN:dO K CN qJ "ValueError.__new__"=true) (aCG:cE K bP "Great"=some (some (.ref CG))) (xCG:dO K CG qJ "ValueError.__new__"=true) (aCU:cE K bP "Full"=some (some (.ref CU))) (xCU:dO K CU qJ "ValueError.__new__"=true) (aCY:cE K bP "Dry"=some (some (.ref CY))) (xCY:dO K CY qJ "ValueError.__new__"=true) (aCP:cE K bP "Span"=some (some (.ref CP))) (xCP:dO K CP qJ "ValueError.__new__"=true) (aCL:cE K bP "Late"=some (some (.ref CL))) (xCL:dO K CL qJ "ValueError.__new__"=true) (aCF:cE K bP "Fault"=some (some (.ref CF))) (xCF:dO K CF qJ "ValueError.__new__"=true) (enn:dC K (.ref CN) (.ref CN)=some true) (egn:dC K (.ref CG) (.ref CN)=some false) (egg:dC K (.ref CG) (.ref CG)=some true) (xfCN:dC K (.ref CN) (.ref CF)=some true) (XN100:vU K CN) (a100:Mn K CN "word" "Nought.word" md f100) (xfCG:dC K (.ref CG) (.ref CF)=some true) (XN101:vU K CG) (a101:Mn K CG "word" "Great.word" nJ f101) (xfCU:dC K (.ref CU) (.ref CF)=some true) (XN102:vU K CU) (a102:Mn K CU "word" "Full.word" pj f102) (xfCY:dC K (.ref CY) (.ref CF)=some true) (XN103:vU K CY) (a103:Mn K CY "word" "Dry.word" qM f103) (xfCP:dC K (.ref CP) (.ref CF)=some true) (XN104:vU K CP) (a104:Mn K CP "word" "Span.word" pA f104) (xfCL:dC K (.ref CL) (.ref CF)=some true) (XN105:vU K CL) (a105:Mn K CL "word" "Late.word" pB f105) (zlen:cE K bP "len"=some none) (zabs:cE K bP "abs"=some none) (zisinstance:cE K bP "isinstance"=some none) (zlist:cE K bP "list"=some none) (ztuple:cE K bP "tuple"=some none) (zstr:cE K bP "str"=some none) (zint:cE K bP "int"=some none) (zbool:cE K bP "bool"=some none) (zrange:cE K bP "range"=some none) (zmax:cE K bP "max"=some none) (zdict:cE K bP "dict"=some none) (zsorted:cE K bP "sorted"=some none) (zenumerate:cE K bP "enumerate"=some none) :
  ∃ fd:cw,(∀ (s:ar) (v:af),tP s fd ⟨[v],[]⟩ [("_law_script",v)])/\∀ base:cF,K.In base->base.Ns bP mg->cm l.prog w K mg base CX0 42 fa fd ["_law_script"] (B8 K):=by
 obtain ⟨_,D1⟩:=dfx ["formula","state","now","got"] X G a1;obtain ⟨_,D2⟩:=dfx ["formula","state","now","got"] X G a2;obtain ⟨_,D3⟩:=dfx ["kind","first","second"] X G a3;obtain ⟨_,D4⟩:=dfx ["kind","first","second"] X G a4;obtain ⟨_,D5⟩:=dfx ["model","state","happening"] X G a5;obtain ⟨_,D6⟩:=dfx ["model","state","happening"] X G a6;obtain ⟨_,D7⟩:=dfx ["machine","sign"] X G a7;obtain ⟨_,D8⟩:=dfx ["doing"] X G a8;obtain ⟨_,D9⟩:=dfx ["doing","deeds"] X G a9;obtain ⟨_,D10⟩:=dfx ["doing","deed"] X G a10;obtain ⟨_,D11⟩:=dfx ["doing","name","formula"] X G a11;obtain ⟨_,D12⟩:=dfx ["doing","name","box","otherwise"] X G a12;obtain ⟨_,D13⟩:=dfx ["doing","box","formula"] X G a13;obtain ⟨_,D14⟩:=dfx ["doing","deed"] X G a14;obtain ⟨_,D15⟩:=dfx ["thing"] X G a15;obtain ⟨_,D16⟩:=dfx ["model","at"] X G a16;obtain ⟨_,D17⟩:=dfx ["falling","thing"] X G a17;obtain ⟨_,D18⟩:=dfx ["falling","thing"] X G a18;obtain ⟨_,D19⟩:=dfx ["signs"] X G a19;obtain ⟨_,D20⟩:=dfx ["model","signs"] X G a20;obtain ⟨_,D21⟩:=dfx ["course","most"] X G a21;obtain ⟨_,D22⟩:=dfx ["model","signs","most"] X G a22;obtain ⟨_,D23⟩:=dfx ["model","signs","records","ending"] X G a23;obtain ⟨_,D24⟩:=dfx ["_law_script"] X G a24;obtain ⟨_,D25⟩:=dfx ["_law_purse_here","_law_many"] X G a25;obtain ⟨_,D26⟩:=dfx ["_law_purse_here","_law_many"] X G a26;obtain ⟨_,D27⟩:=dfx ["_law_purse_here","_law_boxes","_law_queues","_law_most"] X G a27;obtain ⟨_,D28⟩:=dfx ["_law_purse_here","_law_things","_law_left","_law_deep"] X G a28;obtain ⟨_,D29⟩:=dfx ["_law_purse_here","_law_things","_law_left","_law_deep"] X G a29;obtain ⟨_,D30⟩:=dfx ["_law_purse_here","_law_name","_law_signs","_law_many"] X G a30;obtain ⟨_,D31⟩:=dfx ["_law_purse_here"] X G a31;obtain ⟨_,D32⟩:=dfx ["_law_row_here","_law_at","_law_one"] X G a32;obtain ⟨_,D33⟩:=dfx ["_law_write","_law_purse_here"] X G a33;obtain ⟨_,D34⟩:=dfx ["_law_key","_law_purse_here"] X G a34;obtain ⟨_,D35⟩:=dfx ["_law_record","_law_purse_here"] X G a35;obtain ⟨_,D36⟩:=dfx ["_law_script"] X G a36;obtain ⟨_,FMI,bMI,mMI⟩:=mfx ["self","machines"] a37;have MCM:Mk K CM _:=⟨pCM.m,mMI.at_,mMI.fn,pCM.k⟩;obtain ⟨_,FSI,bSI,mSI⟩:=mfx ["self","boxes","queues","drawn","sent"] a38;obtain ⟨_,FSC,bSC,mSC⟩:=mfx ["self"] a39;have MCS:Mk K CS _:=⟨pCS.m,mSI.at_,mSI.fn,pCS.k⟩;obtain ⟨_,FDI,bDI,mDI⟩:=mfx ["self","machine","state","happening"] a40;obtain ⟨_,FDN,bDN,mDN⟩:=mfx ["self"] a41;obtain ⟨_,FDR,bDR,mDR⟩:=mfx ["self","formula"] a42;obtain ⟨_,FDQ,bDQ,mDQ⟩:=mfx ["self","name"] a43;obtain ⟨_,FDF,bDF,mDF⟩:=mfx ["self","box","worth"] a44;have MCD:Mk K CD _:=⟨pCD.m,mDI.at_,mDI.fn,pCD.k⟩;obtain ⟨_,FBI,bBI,mBI⟩:=mfx ["self","records","ending","states"] a45;have MCB:Mk K CB _:=⟨pCB.m,mBI.at_,mBI.fn,pCB.k⟩;obtain ⟨_,FCI,bCI,mCI⟩:=mfx ["self","model","states","pending"] a46;obtain ⟨_,FCE,bCE,mCE⟩:=mfx ["self","left"] a47;obtain ⟨_,FCO,bCO,mCO⟩:=mfx ["self"] a48;have MCC:Mk K CC _:=⟨pCC.m,mCI.at_,mCI.fn,pCC.k⟩;have e:=hfa.symm.trans D36.m
 cases e;have B:Bl mg:=⟨cY X G zlen,cY X G zabs,cY X G zisinstance,cY X G zlist,cY X G ztuple,cY X G zstr,cY X G zint,cY X G zbool,cY X G zrange,cY X G zmax,cY X G zdict⟩;have TM:MdT K mg CM CS:=⟨pCM.c,pCS.c,nCMmachines,nCSboxes,nCSqueues,nCSdrawn,nCSsent,eJ X G aCM,eJ X G aCS⟩;have TD:DT K mg CD:=⟨pCD.c,nCDmachine,nCDhappening,nCDstate,nCDwritten,nCDoutgoing,nCDends,nCDreckoned,nCDqueued,eJ X G aCD⟩;have T6:Fw K mg (yj CN CG CU CY CP CL):=⟨⟨eJ X G aCN,eJ X G aCG,xCN,xCG,enn,egn,egg⟩,eJ X G aCU,eJ X G aCY,eJ X G aCP,eJ X G aCL,xCU,xCY,xCP,xCL⟩;have MtN:Mt K CD "now" "Doing.now" ji ["self"] _ _:=⟨FDN,bDN,mDN⟩;have MtR:Mt K CD "reckon" "Doing.reckon" eX ["self","formula"] _ _:=⟨FDR,bDR,mDR⟩;have MtQ:Mt K CD "queue_of" "Doing.queue_of" eQ ["self","name"] _ _:=⟨FDQ,bDQ,mDQ⟩;have MtF:Mt K CD "fill" "Doing.fill" gT ["self","box","worth"] _ _:=⟨FDF,bDF,mDF⟩;have MtC:Mt K CS "copy" "State.copy" jC ["self"] _ _:=⟨FSC,bSC,mSC⟩;obtain ⟨_,FW100,bW100,mW100⟩:=mfx ["self"] a100;obtain ⟨_,FW101,bW101,mW101⟩:=mfx ["self"] a101;obtain ⟨_,FW102,bW102,mW102⟩:=mfx ["self"] a102;obtain ⟨_,FW103,bW103,mW103⟩:=mfx ["self"] a103;obtain ⟨_,FW104,bW104,mW104⟩:=mfx ["self"] a104;obtain ⟨_,FW105,bW105,mW105⟩:=mfx ["self"] a105;have TB:BkT K mg CB:=⟨pCB.c,nCBrecords,nCBending,nCBstates,eJ X G aCB⟩;have TC:CoT K mg CC:=⟨pCC.c,nCCmodel,nCCstates,nCCpending,nCCreached,nCCstopped,eJ X G aCC⟩;have MtE:Mt K CC "ending_due" "Course.ending_due" gk ["self","left"] _ _:=⟨FCE,bCE,mCE⟩;have MtO:Mt K CC "do_one" "Course.do_one" ic ["self"] _ _:=⟨FCO,bCO,mCO⟩;have BSo:mg "sorted"=none:=cY X G zsorted;have ME:mg "enumerate"=none:=cY X G zenumerate;have mFa:mg "Fault"=some (.ref CF):=eJ X G aCF;have MW:∀ e,xx K ((yj CN CG CU CY CP CL) e) "word" ((BM f100 f101 f102 f103 f104 f105) e):=fun e=>by cases e <;> assumption
 have XNs:∀ e,vU K ((yj CN CG CU CY CP CL) e):=fun e=>by cases e <;> assumption
 have XFs:∀ e,dC K (.ref ((yj CN CG CU CY CP CL) e)) (.ref CF)=some true:=fun e=>by cases e <;> assumption
 have BW:∀ e,Binds K (BM _ _ _ _ _ _ e) ["self"] []:=B9 bW100 bW101 bW102 bW103 bW104 bW105;exact ⟨_,law_b D36.F fun _ _ _ _ _ _ _=>rfl,fun base _ _=>Mz D36 D24 D25 D31 (ok_lv D31 D26 D30 (fun sgs=>ok_lm D30 D26 D28 (fun bs qs=>B1 (kk:=9) (by decide) D28 D29 (Kc D29 D28 D27 D25 B 3) D27 D25 B) D25 B) D25 B) MCM (ok_MI (n:=29) FMI D15 B TM) bMI D22 (LU D22 D20 (LQ D20 D16 (CT D16 MCS FSI bSI B TM) D19 (Lx D19 ME) MCC bCI (ok_ci FCI TC) TC TM B BSo) D21 (LP D21 MtE (ok_ed MtE TC) MtO (LM (cf:=(yj CN CG CU CY CP CL)) (fW:=(BM f100 f101 f102 f103 f104 f105)) (fdW:=(BM _ _ _ _ _ _)) MtO D18 (LC D18 D17 B) D5 (fun bq=>(IG (n:=5) D5 D6 MCD bDI (ok_DI FDI MtC (IE FSC MCS FSI bSI B TM) TD TM) D9 (zi D9 D10 MtF MtR (uJ (cf:=(yj CN CG CU CY CP CL)) MtR MtN D1 D3 D4 D2 TD T6 TM B) D12 D11 (Iv D11 MtR (uJ (cf:=(yj CN CG CU CY CP CL)) MtR MtN D1 D3 D4 D2 TD T6 TM B) MtQ TD T6 TM B) D13 (FE D13 MtR (uJ (cf:=(yj CN CG CU CY CP CL)) MtR MtN D1 D3 D4 D2 TD T6 TM B) MtF TD T6 TM B) D14 (Iy D14 MtR (uJ (cf:=(yj CN CG CU CY CP CL)) MtR MtN D1 D3 D4 D2 TD T6 TM B) MtN TD T6 TM B) MtQ TD TM 5) D7 D8 TD TM B)) MW BW (B9 (AD FW100) (C9 FW101) (FT FW102) (IP FW103) (FU FW104) (FV FW105)) XNs mFa XFs TC TM) TC B) MCB bBI (ok_bk FBI TB) TB TC) D23 D35 (ok_bt D35 D25 D33 D34 D32 B) D32 TM TB B⟩
theorem walk {l:uh} {q:aL} {loose:List Str} {XP:(Str->Option af)->cF->Prop} {YP:bN->cF->Prop} {d:DefRec} {K:Params->ae} (hn:l.most=some 63) (hdf:d.params.defaults=[])
  (hY:∀ (w:bN) (h:cF),YP w h->(K w.params).In h)
  (F:∀ (w:bN) (mg:Str->Option af) (fa:aa) (h:cF),(K w.params).In h->h.Ns bP mg->mg d.name=some (.ref fa) ->
   ∃ fd:cw,(∀ (s:ar) (u:af),tP s fd ⟨[u],[]⟩ [("_law_script",u)])/\∀ base:cF,(K w.params).In base->base.Ns bP mg->cm l.prog w (K w.params) mg base CX0 42 fa fd ["_law_script"] (B8 (K w.params))) :
  Hg q loose XP YP l.row.toRowW d [] (fun f vs=>Cw f vs):=
 L2.walk_ofB (n:=63) (k:=42) (x:="_law_script") (CX:=fun _=>CX0) (sp:=fun w=>B8 (K w.params)) hn (by decide) hdf ⟨rfl,by decide,by decide⟩ hY F (fun _ _ a ns hl hb hS=>⟨a,ns,rfl,hS,hl,hb,fun _=>rfl⟩) fun _ _ _ _ _ z=>z
end My
namespace PySem.W.Fast
def tw8594860924591160999:=0
def tw1447428973492430698:=0
def tw18025338498053709869:=0
def tw855004344590200200:=0
def tw8289607619680450654:=0
def tw9360997194477146607:=0
def tw17515178296327729294:=0
def tw15214422622237388651:=0
def tw18029289184328793683:=0
def tw18059360215535515131:=0
def tw5976413466846738490:=0
def tw3565947191305080629:=0
def tw12026783871984864017:=0
def tw18110649596915167686:=0
def tw2408833414504016728:=0
def tw1530628824277869938:=0
def tw3886951824625909293:=0
def tw887368241487431699:=0
def tw6185313878646094494:=0
def tw10567600948904074683:=0
def tw14650375992681599597:=0
def tw11350231331357672873:=0
def tw12909996670666621353:=0
def tw14581313816946463227:=0
def tw6354680863712634270:=0
def tw8521563671129401538:=0
def tw13499791192993558683:=0
def tw2827027319726502752:=0
def tw16791338766253288416:=0
def tw12685048605608305877:=0
def tw412221247139869301:=0
def tw8189397469395047561:=0
def tw7835861776600383520:=0
def tw14928804681666841701:=0
def tw15748298731415890248:=0
def tw2446743289869141113:=0
def tw7999169112022771414:=0
def tw15626862601188566682:=0
def tw2825481300220756547:=0
def tw13819292622437761471:=0
def tw12175806613119791052:=0
def tw3830999542572907582:=0
def tw17258142187618283544:=0
def tw7119038201971175247:=0
def tw16025073908389584365:=0
def tw6356595123560164138:=0
def tw197327598330430836:=0
def tw2591635980679703496:=0
def tw11985461074904128612:=0
def tw15073841800610996812:=0
def tw9705960202383370281:=0
def tw15745109989243956141:=0
def tw10432690176179035209:=0
def tw7787869813506747502:=0
def tw4223611225712726942:=0
def tw7123176339795945251:=0
def tw18052057406990874247:=0
def tw13234886980708658252:=0
def tw6841682821029366086:=0
def tw9027406992577634670:=0
def tw10794635835638872265:=0
def tw15278438438223544434:=0
def tw12262206396812076896:=0
def tw9065456750237358462:=0
def tw1384578759728463353:=0
def tw11818823381222029799:=0
def tw1958814777645617908:=0
def tw3246538929187436274:=0
def tw7704870870706932420:=0
def tw12835765586136821139:=0
def tw11503234727312205695:=0
def tw2470037371560585516:=0
def tw10145676505347902770:=0
def tw3409498170127826707:=0
def tw12806858226679025018:=0
def tw15880785823602503814:=0
def tw10469480000713229272:=0
def tw12479744855611423590:=0
def tw2450361639945247290:=0
def tw4337188838083221652:=0
def tw6878681786442159647:=0
def tw4920719900640924029:=0
def tw13231603346229772624:=0
def tw14931396740207993701:=0
def tw5105543793867233911:=0
def tw5362623453205666475:=0
def tw16215780335177247457:=0
def tw1869164276728006562:=0
def tw757161518254245832:=0
def tw12726607261882616868:=0
def tw18222871093811262556:=0
def tw17945129452640227847:=0
def tw7586383882031556947:=0
def tw5525684429252958014:=0
def tw5340383788767151327:=0
def tw176004839824406150:=0
def tw1877657633517447848:=0
def tw13010314031444525823:=0
def tw7231480845361246739:=0
def tw8497055760588752022:=0
def tw13860042249312941659:=0
def tw8202513774995686431:=0
def tw4934604202940276183:=0
def tw1183802534858834774:=0
def tw9830292313121956668:=0
def tw2926818049552799794:=0
def tw17936282738986895010:=0
def tw6968637150135718470:=0
def tw4168413339158414590:=0
def tw15202313233172129654:=0
def tw12640669951150346690:=0
def tw2273415898535982072:=0
def tw8971702815459008074:=0
def tw10704035078783360483:=0
def tw13835187267126894523:=0
def tw9478365075334765365:=0
def tw12820825445940569529:=0
def tw10740807257681778629:=0
def tw15363845195889696765:=0
def tw11051893269609818954:=0
def tw2733708058025910311:=0
def tw9270612694489374862:=0
def tw4169084886842197643:=0
def tw8583954018411272715:=0
def tw12363390617702534858:=0
def tw17032708521491400839:=0
def tw16998355207259538775:=0
def tw8908089719341984994:=0
def tw14869413183290762127:=0
def tw6445426231285318603:=0
def tw9598794889167449872:=0
def tw7264372224587061651:=0
def tw17485201819381024300:=0
def tw5090742983387633235:=0
def tw6118984090926073051:=0
def tw10439524326786331568:=0
def tw16365535606194092518:=0
def tw5665435020302777686:=0
def tw13939560278563071246:=0
def tw12274877570800667007:=0
def tw4176516695592339553:=0
def tw4837928040360163998:=0
def tw11565414451185159188:=0
def tw14964669725933347605:=0
def tw14101899071916995593:=0
def tw3672910069054881154:=0
def tw15340689372289755768:=0
def tw13579089782621564669:=0
def tw2589414720686104568:=0
def tw11768455540187864829:=0
def tw13668549532075478186:=0
def tw17531815514134298022:=0
def tw13524810611274829328:=0
def tw7208023584639538963:=0
def tw16281308612704577732:=0
def tw15692027837779042547:=0
def tw4567934638848608844:=0
def tw4559980137215975358:=0
def tw3563384983372908283:=0
def tw16037092245646729975:=0
def tw13599825642552110682:=0
def tw17111087285605306288:=0
def tw17323158201118436203:=0
def tw3158288401029803524:=0
def tw1181012848715112423:=0
def tw15575266462476756286:=0
def tw9602060762209030089:=0
def tw15279454791405560276:=0
def tw15394833514725590073:=0
def tw17921288408423254921:=0
def tw8757046000480747992:=0
def tw17258998845891337944:=0
def tw1515917772726364598:=0
def tw1745481370473448915:=0
def tw15066864785731295110:=0
def tw10474030172808495270:=0
def tw15010635276683224055:=0
def tw6325360327322777045:=0
def tw10950494843918140082:=0
def tw13086714697410192331:=0
def tw4673580012758444363:=0
def tw6827310171100667802:=0
def tw2931576361757205676:=0
def tw6126918460544135662:=0
def tw4249010954488823181:=0
def tw7608752447569358258:=0
def tw8607239216468404263:=0
def tw13110210190162426666:=0
def tw958796615884054258:=0
def tw14542366380395541756:=0
def tw11823977329405596621:=0
def tw17422620951509712903:=0
def tw3176985359249254094:=0
def tw3068959979919709729:=0
def tw2315682640839619683:=0
def tw10957268507095621800:=0
def tw15806407415803484602:=0
def tw8949098322249233657:=0
def tw9699393160570509903:=0
def tw16525450305057632103:=0
def tw6975290905228997494:=0
def tw16216204237521703913:=0
def tw13196524054168432056:=0
def tw13871679251313628561:=0
def tw18439906017503845567:=0
def tw9483057654393146786:=0
def tw8111329116789320361:=0
def tw3617693961598102566:=0
def tw3228723296006544580:=0
def tw17548461275275143849:=0
def tw16818728834658501994:=0
def tw5515052850806035507:=0
def tw8117882628800526314:=0
def tw3381780921318852055:=0
def tw13759473735340850950:=0
def tw13744202358411265799:=0
def tw7045971542120980269:=0
def tw6748498247145273903:=0
def tw7069214491381662116:=0
def tw14680949529299336902:=0
def tw3298663246549887886:=0
def tw13551015409790113700:=0
def tw14692280591790899333:=0
def tw15496757435627991399:=0
def tw17632665915525215589:=0
def tw7271319808648552019:=0
def tw17531530306879913786:=0
def tw14003052060061707342:=0
def tw2353490299520812446:=0
def tw3504795368671542525:=0
def tw7617527397849997239:=0
def tw2105249870940226365:=0
def tw2767055865827178242:=0
def tw1815905464597210921:=0
def tw17669676910681576973:=0
def tw14757572808578820092:=0
def tw11763841272579013375:=0
def tw18098320918778919764:=0
def tw16689980271446217186:=0
def tw6024909383957175945:=0
def tw6765718414609834260:=0
def tw894728370971237898:=0
def tw4157394089141103945:=0
def tw4425245977210656313:=0
def tw16520578254190215180:=0
def tw11899526857541722586:=0
def tw16447102638278791469:=0
def tw14622402993644949950:=0
def tw17192973205878246545:=0
def tw14081234147626160862:=0
def tw17125726292096376010:=0
def tw18253070767890036568:=0
def tw4003160199703983578:=0
def tw12884086671334096010:=0
def tw3915934622721756660:=0
def tw4387093244152626740:=0
def tw13595150773709958895:=0
def tw18324467143659735715:=0
def tw5171779063562398642:=0
def tw163440574046034627:=0
def tw12977914455504984053:=0
def tw4621141399038872081:=0
def tw3917538849055983524:=0
def tw8055457905458959304:=0
def tw12981111369601755024:=0
def tw3076939965789718238:=0
def tw12449187809346907816:=0
def tw4714474558827353487:=0
def tw4476208535426244154:=0
def tw6978164357482749309:=0
def tw15523621669225339468:=0
def tw974320816826210614:=0
def tw11110767029825445605:=0
def tw16433910828547924373:=0
def tw9522339691274140403:=0
def tw6096908159550211562:=0
def tw855957017755063167:=0
def tw11612424487090023249:=0
def tw5024534670019694801:=0
def tw12784152829349748174:=0
def tw9381821475969543182:=0
def tw2044350371628149254:=0
def tw16631993961678003269:=0
def tw10120181547415138468:=0
def tw1733475341470227909:=0
def tw1472346552895691137:=0
def tw16260885960992155193:=0
def tw3993622894995888801:=0
def tw7240415584635942126:=0
def tw11164495545881399122:=0
def tw13579993786203545692:=0
def tw7202252810430062829:=0
def tw11517461758886550998:=0
def tw8776876947058309901:=0
def tw11732463596745891053:=0
def tw443367940619559258:=0
def tw18022763603726583370:=0
def tw1715391687062408999:=0
def tw9133285220422767765:=0
def tw11873262826950334932:=0
def tw6000936171772156077:=0
def tw17665779243911212307:=0
def tw1816487420989247863:=0
def tw7376257049215451773:=0
def tw7058707193561186040:=0
def tw4497559630155618461:=0
def tw3139550134509542493:=0
def tw2736239805348343896:=0
def tw16489004611218082282:=0
def tw16164979594091547442:=0
def tw10209926844500960417:=0
def tw2483825604473287451:=0
def tw15053201408142693623:=0
def tw9172891410893083147:=0
def tw336371115816773340:=0
def tw3096536256761376372:=0
def tw9314266128664328523:=0
def tw14004960460925094300:=0
def tw8889514519223007446:=0
def tw8718785416139116761:=0
def tw12886430050033982988:=0
def tw1945386585944944733:=0
def tw11517224781483964962:=0
def tw14858261932842859893:=0
def tw15937197172194315249:=0
def tw5776043143927937950:=0
def tw10959005371319581767:=0
def tw1204474314100804710:=0
def tw6912200415799467376:=0
def tw8827345012378107631:=0
def tw16980947761316359306:=0
def tw6520576767244997616:=0
def tw11818667784302819338:=0
def tw9338122234109703223:=0
def tw8920343167810733356:=0
def tw3917867548214408515:=0
def tw17820531567007608052:=0
def tw10646736746480988700:=0
def tw10411562467390926408:=0
def tw16719014363118939816:=0
def tw9616861820619206009:=0
def tw2744450759115196070:=0
def tw7021768893831875762:=0
def tw3496633801267837866:=0
def tw2693465003217204111:=0
def tw7843624856180273247:=0
def tw3211915056329556369:=0
def tw2288205506176463125:=0
def tw5051247997217564062:=0
def tw3677083221076407785:=0
def tw6816066581034604085:=0
def tw15827469157450545377:=0
def tw11042974683251280250:=0
end PySem.W.Fast
open PySem PySem.W PyProof.Rows
set_option maxRecDepth 100000 in
set_option maxHeartbeats 0 in
theorem PySem.Challenge.cw_momentloom_k61_books_bent_holds : PySem.Challenge.rw_momentloom_k61_books_bent.Holds := by
 w_on; o_law; k_head; (case hw=>w_witness2)
 k_fill
 refine My.walk (l:=MA) rfl rfl (fun w h Y=>PySem.W.kIn_of Y) ?F
 case F =>
  intro w mg fa h KX G hmg;refine' My.all_mk KX G hmg ?a1 ?a2 ?a3 ?a4 ?a5 ?a6 ?a7 ?a8 ?a9 ?a10 ?a11 ?a12 ?a13 ?a14 ?a15 ?a16 ?a17 ?a18 ?a19 ?a20 ?a21 ?a22 ?a23 ?a24 ?a25 ?a26 ?a27 ?a28 ?a29 ?a30 ?a31 ?a32 ?a33 ?a34 ?a35 ?a36 ?aCM ?a37 ?pCM ?nCMmachines ?aCS ?a38 ?a39 ?pCS ?nCSboxes ?nCSqueues ?nCSdrawn ?nCSsent ?aCD ?a40 ?a41 ?a42 ?a43 ?a44 ?pCD ?nCDmachine ?nCDhappening ?nCDstate ?nCDwritten ?nCDoutgoing ?nCDends ?nCDreckoned ?nCDqueued ?aCB ?a45 ?pCB ?nCBrecords ?nCBending ?nCBstates ?aCC ?a46 ?a47 ?a48 ?pCC ?nCCmodel ?nCCstates ?nCCpending ?nCCreached ?nCCstopped ?aCN ?xCN ?aCG ?xCG ?aCU ?xCU ?aCY ?xCY ?aCP ?xCP ?aCL ?xCL ?aCF ?xCF ?enn ?egn ?egg ?xfCN ?XN100 ?a100 ?xfCG ?XN101 ?a101 ?xfCU ?XN102 ?a102 ?xfCY ?XN103 ?a103 ?xfCP ?XN104 ?a104 ?xfCL ?XN105 ?a105 ?zlen ?zabs ?zisinstance ?zlist ?ztuple ?zstr ?zint ?zbool ?zrange ?zmax ?zdict ?zsorted ?zenumerate
  case a1 | a2 | a3 | a4 | a5 | a6 | a7 | a8 | a9 | a10 | a11 | a12 | a13 | a14 | a15 | a16 | a17 | a18 | a19 | a20 | a21 | a22 | a23 | a24 | a25 | a26 | a27 | a28 | a29 | a30 | a31 | a32 | a33 | a34 | a35 | a36=>
   refine' My.dn_i ?a ?l ?c ?k
   case a=>k_is
   case l=>k_is
   case c=>k_is
   case k=>k_is
  case aCM | aCS | aCD | aCB | aCC | aCN | aCG | aCU | aCY | aCP | aCL | aCF=>k_is
  case a37 | a38 | a39 | a40 | a41 | a42 | a43 | a44 | a45 | a46 | a47 | a48=>
   refine' My.mn_i ?a ?i ?l ?c ?k
   case a=>k_is
   case i=>k_is
   case l=>k_is
   case c=>k_is
   case k=>k_is
  case pCM | pCS | pCD | pCB | pCC=>exact ⟨⟨by k_is,by k_is,by k_is,by k_is⟩,by k_is,by k_is⟩
  case nCMmachines | nCSboxes | nCSqueues | nCSdrawn | nCSsent | nCDmachine | nCDhappening | nCDstate | nCDwritten | nCDoutgoing | nCDends | nCDreckoned | nCDqueued | nCBrecords | nCBending | nCBstates | nCCmodel | nCCstates | nCCpending | nCCreached | nCCstopped | zlen | zabs | zisinstance | zlist | ztuple | zstr | zint | zbool | zrange | zmax | zdict | zsorted | zenumerate=>k_is
  case xCN | xCG | xCU | xCY | xCP | xCL | xCF=>k_exc
  case enn | egn | egg=>kts_exm
  case xfCN | xfCG | xfCU | xfCY | xfCP | xfCL=>kts_exm
  case XN100 | XN101 | XN102 | XN103 | XN104 | XN105=>exact ⟨by k_is,by k_is,by k_is,by k_is,by k_is,by k_is,by k_is⟩
  case a100 | a101 | a102 | a103 | a104 | a105=>
   refine' My.mn_i ?a ?i ?l ?c ?k
   case a=>k_is
   case i=>k_is
   case l=>k_is
   case c=>k_is
   case k=>k_is

