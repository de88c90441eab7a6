import PyProof.Rows.All
import Wide.All
import OpenK.AllK
import Wide.FinOn
import Lean
import PyProof.EqAt
import PyProof.EqKinds
import PyProof.TupleCall
import KE.KDictOf
import PyProof.AttrMissSeq
import PyProof.DictCopy
import PyProof.NeKinds
import PyProof.DictWalks
import PyProof.MinMaxWalk
import PyProof.MeetsDictList
import PyProof.DictFindH
import PyProof.DictTruth
import KE.KRevSl
import PyProof.DictItems
import KE.KDictSum
import PyProof.Rows.SortStr
import PyProof.Rows.SortWalk
import PyProof.ExcArgsOwn
import PyProof.NsDelKeeps
import PyProof.EnumMake
import PyProof.EnumFor
import PyProof.EnumStmt
import PyProof.Rows.EnumRows
import PyProof.Rows.SortRev
import KE.KSortTup
import KE.KTab
import PyProof.Rows.SortShell
import PySem.Challenge.RW_momentloom_k41_go_on
open PySem renaming Addr->aa,Value->ae,Shared->ak,wpAny_bind->aq,sizeLine->aB,Program->aJ,Paired->aP,wpAny->aU,wpAny_pure->aV,mainGlobals->aW,model->aX,World->bJ,FuncData->bR,Around->bS,Heap->cu,starEach->cw,boot_len->cA,Expr->cM,Stmt->cV,compareOp->dv,wpAny_loadPart'->dE,wpAny_holding->dO,wpAny_mono->d7,bootBuiltins->eE,cLine->eO,sysModules->eQ,eval->fc,mem_of_lookup->fK,Builtin->gX,binaryOp->g9,keywordEach->hZ,backTo->ia,wpAny_Call_Name_kw->ib,wpAny_passesOwn->iq,wpAny_truthy_bool->iH,behindInMarks->jm,codeAny_mono->jS,NameKind->jT,assignEach->j4,getMethod->j6,attributeBase->kC,ExceptHandler->kD,Scope->kE,sizeLine_eq->kH,backToKw->kJ,sliceBounds->kK,wpAny_execs_nil->lA,codeAny->lO,wpAny_call->mK,tupleKind_room_in1->mQ,holding->om,foldedSetIterable->oo,valueAt->oq,wpAny_dictEntries->oy,wpAny_newList->oV,wpAny_forIn_list->pZ,wpAny_call_entry->p0,richCompare_meets_room->qq,call_meets->qv,letOwnedTupleGo->qE,codeAny_builtin->qF,rawInt->rH,richCompare->rQ,unbindBehindTheSuite->rV,standAt->sQ,swapsWith->sR,BindsTo->sV,stored->uN,call->vJ,callWith->vL,callerA->vS,wpAny_pyIter_slot->vW,tupleKind->xl,assign->xo,subscripted->yC,wpAny_field->yD,Within->yL,leaving->zP,getItem->zQ,wpAny_richCompare_same_room->zT,wpAny_loadPart->z7,bindArgs->Ac,wpAny_newFunctionEnv_cells->Af,atKey->Al,wpAny_setField->An,wpAny_rule->Ap,evalArgs_none->Bb,wpAny_standAt->Cf,call->CH,bindL->DI,bindC->DJ,cellsFrom->DK,wpAny_Call_method0_late->DX,noteFrame->DZ,isTrue->Eg,wpAny_pyNext_list_item->El,Result->Ew,seqIndex_neg->ED,call_meetsIn->EW,wpAny_isTrue_Compare1->Hu,wpAny_pyNext_list_end->Hv,codeAny_call_function->Hw,Model->HH,Operator->HK,rule->HL,seqIndex_of->HX,getAttr?->Ij,KeyKind->JI,builtinsNs->KZ,wpAny_Name->K3,typeLookup->Le,checkCount->Lz,CmpOp->M5,wpAny_assign_Name->M7,wpAny_pyIter_list->M8,Keyword->M9,slot_list_getitem->Nb,wpAny_newObj_type->Nd
open PySem.W renaming Frag->af,findIn->aQ,nsIn->bL,mg_none_of->cG,mg_of->cJ,exmOne->cN,excIn->cY,kitOne->dP,kia_one->dW,emptyDict->eR,fnOf->eT,keepIn->gi,instObj->gu,looks_findIn->gx,methodCall_KW->hJ,callWith_K->iT,InstAt->i9,codeIn->jb,katRev->kf,plainGet->lN,isFn->mI,cellsFrom_some->mO,hideAll->nG,lookIn->oF,plainGet_of->pY,methodObj->qG,hasDictIn->qK,takerIn->tH,makesIn->tI,OpenLaw->tM,kitAny->vE,mroIn->vM,clsIn->vX,hideAll_get->zM,callWith_K0->zO,of_hideAll->zX,codeRec_of->Ae,plainOver->A7,specialIn->A8,kitx_list->A9,kitx_dict->Ba,handedIn->Cq,takesIn->DH,findObj->Eb,exm_one->Ed,typeIn->Ey,notCls->E4,WalkO->Hy,kas_rev->Ni
open List renaming mem_cons_of_mem->ag,length_map->ar,mem_cons->au,mem_cons_self->ax,length_append->aA,mem_singleton->aD,getElem?_eq_some_iff->aE,size_toArray->aG,getElem?_eq_getElem->aM,not_mem_nil->aS,length_cons->aT,mem_append_right->bD,lookup_cons_self->bO,map_cons->bQ,mem_of_getElem?->bV,map_append->cg,mem_append->cq,lookup_cons->cy,replicate->cB,mem_map->cC,append_nil->cE,nodup_cons->cF,getElem?_map->cI,length_nil->cK,pairwise_iff_getElem->c9,length_take->df,getD_eq_getElem?_getD->dD,getElem?_of_mem->dM,map_map->dS,getElem?_append_right->dX,take_length->dZ,getElem?_set_self->eZ,take_add_one->e9,getElem?_append_left->ff,zip_cons_cons->gm,pairwise_cons->gp,getElem?_eq_none->gs,mem_append_left->gE,nodup_append->gF,pairwise_append->gG,map_congr_left->gO,getElem?_set_ne->iB,nodup_nil->iC,dropLast_subset->iD,getElem_map->iI,length_reverse->iP,mem_map_of_mem->iR,find?_cons->iX,length->ja,append_assoc->jr,take_zero->jt,pairwise_map->ju,length_replicate->jI,contains_iff_mem->jQ,any_cons->jU,lookup->jV,length_dropLast->jW,nil_append->j3,take_sublist->lP,getElem?_replicate->nJ,length_drop->nU,pairwise_singleton->nV,range->oh,of_mem_zip->oG,length_zip->o6,length_filter_le->pP,take_append_drop->pS,filterMap_cons->qD,mem_filterMap->rA,map_nil->sW,toArray->tu,reverse_perm->tw,eraseIdxIfInBounds_toArray->tK,map_reverse->ug,getElem_mem->uh,foldl_cons->vG,drop_zero->wN,getElem?_zip_eq_some->xQ,drop_eq_getElem_cons->yb,getLast?_eq_none_iff->yj,getElem?_take_of_lt->yB,map_take->yI,take_of_length_le->zU,length_singleton->Ak,dropLast_concat->BH,getLast?_concat->BI,mem_of_mem_take->BM,length_pos_iff->Dt,zip_nil_right->DQ,getElem?_drop->D0,zip_nil_left->EC,reverse_cons->EI,ext_getElem?->E1,foldl_append->Ft,any_eq_true->Hx,drop_length->HA,cons_append->HB,perm_middle->HC,isEmpty_iff->HE,mem_filter->HF,length_set->HZ,mem_range->JJ,all_cons->Lj
open Nat renaming le_refl->aC,ne_of_lt->aO,lt_of_lt_of_le->bh,zero_le->bT,le_trans->cZ,le_succ->fq,lt_irrefl->gJ,not_lt_zero->hW,lt_succ_of_lt->ij,lt_of_le_of_lt->jc,le_of_lt->kF,ne_of_gt->oC,lt_trans->oN,lt_of_succ_lt_succ->oS,succ_pos->o7,lt_or_ge->tN,sub_self->tQ,lt_succ_self->uL,le_add_right->ve,le_of_eq->z8,mul_le_mul_right->Du,add_le_add_left->DY,add_sub_cancel->EY,lt_or_gt_of_ne->Fc
open PySem.Heap renaming get?_push_of_some->aI,lt_size->aN,get?_push_size->cj,get?_update_other->e8,get?_push_ne->fu,size_update->gk,get?_update_self->pK,size_push->p8,SameBut->sP,get?_update_ne->C0,MadeExcOf->JV
open Bool renaming false_ne_true->aY,eq_iff_iff->oE,and_eq_true_iff->qe,false_eq_true->rD,and_eq_true->tX,noConfusion->tZ,and_false->JS,true_and->Lu
open PySem.Paired renaming length->aZ,snoc->eD
open PySem.F renaming plainAttrs_list->bZ,slot_list_append->cP,type_list_append->cQ,args_tuple_add_2->vP,entry_tuple_add->wH,args_tuple_gt_2->wQ,slot_dict_items->wU,slot_tuple_add->xu,entry_tuple_gt->xU,slot_tuple_gt->yE,slot_list_pop->yG,type_list_pop->yH
open False renaming elim->cH
open PySem.PassesOwn renaming never->cR
open PySem.Obj renaming mapSeq->cX,mapFields->rB,data_mapFields->rR,isFreed_of_fields->Bf
open PyProof.Rows renaming seqObj->dA,IntsAre->eF,callWith_type1->jz,AllBare->oj,envOfC->rP,IsTup->tS,listUpdate_at->ue,size_push'->uX,seqEpoch_at->yF,entry_list_sort->ze,tuples'->zV,slot_list_sort->Ay,Constant_none->Ce,subscriptTail->Ct,sortedAll->Ee,floordiv_int->Eo,subscriptTail_builtinR->EE,call_function_entry_kw->E7,plain_sorted->E8,entry_sorted->E9,kind_sorted->IA,wpAny_call_entry_kw->J1,Subscript_->Lg,args_list_sort_rev->LA
open Option.some renaming inj->dH
open PySem.Builtin.Int renaming intBits->eP
open Ne renaming symm->fj
open Array renaming length_toList->fH,perm_iff_toList_perm->iw,getElem?_eq_some_iff->kL,getD->n6,getElem?_toList->oJ,toList->K5
open List.Perm renaming refl->iY
open Int renaming emod_lt_of_pos->jg,emod_nonneg->kA,toNat_natCast->tJ,le_refl->vH,fdiv_eq_ediv_of_nonneg->xr
open Option renaming map_eq_some_iff->jk,isSome_map->lD,getD_none->DV,bind_some->Ec,map_some->Fg
open PySem.Builtin.List renaming listTooLong->j2,listFitsIndex->rC
open PySem.W.WData renaming weight->j9,weightAll->uU
open PySem.Str renaming ofString->kM
open Sum.inr renaming inj->kO
open PySem.AutoSeq1 renaming sub_tuple_tuple->kP,list_insert_list_int_val_1->Ng
open PySem.Calls renaming callWith_builtin->nY,Name_function_global->vI,evalArgs_plain->Ai
open PySem.SeqAt.EqAt renaming int_int->pI,int_str->yy,str_int->yz,same->Ah
open PySem.Builtin.Tuple renaming tupleCompareSizes->pJ
open Function renaming comp->p4
open PySem.Builtin.Dict renaming dictSlotArgs->rS,updateFrom->tL,pairItems->t7,samePairs->t9
open Classical renaming byContradiction->ua
open List.cons renaming inj->vt
open PySem.SeqAt renaming EqAt->vN
open PyProof renaming noPylong_of_log2->vV
open And renaming imp->xb
open PySem.EntryCells renaming newEntry->xJ
open PySem.Around renaming under->yA,under_plainId->zS
open PySem.Code renaming isFrame->zN,quiet_builtin->Ea
open PySem.Heap.DictOf renaming new->zR
open PySem.Value renaming isInt->zW,isInt_shape->DG,isStrOf->JH
open PySem.Builtin.ObjectAttr renaming bindTo->Hz
open Nat.succ renaming inj->HD
open Std.Legacy.Range renaming forIn_eq_forIn_range'->JX,size->JY
open PySem.Challenge renaming rw_momentloom_k41_go_on->M4
open PySem.Heap.IsSliceOf renaming new->Na
open PySem.W.WShape renaming has->Nc
open PySem.Heap.UpToSlots renaming of_keeps->Nf
open PyProof.Rows.SortSt renaming mk'->Nh
-- CHANGE: your row's module here, as the last of these rows
set_option Elab.async false
set_option linter.all false
set_option maxRecDepth 100000
namespace L2
open PySem PySem.Spec PyProof.Rows
abbrev Key:=Sum Int Str
def wj:Key->ae->Bool
 | .inl k,v=>zW k v
 | .inr x,v=>JH x v
def keyH (w:bJ):Key->Int
 | .inl k=>hashInt k
 | .inr x=>hashStr w x
theorem fY:∀ {k:Key} {v:ae},wj k v=true->(∃ i t,k=Sum.inl i/\v=Value.int i t)\/(∃ x t,k=Sum.inr x/\v=Value.str x t)
 | .inl i,v,h=>by
  obtain ⟨t,e⟩:=DG (k:=i) (v:=v) h;exact .inl ⟨i,t,rfl,e⟩
 | .inr x,v,h=>by
  obtain ⟨t,e⟩:=Value.isStrOf_shape (x:=x) (v:=v) h;exact .inr ⟨x,t,rfl,e⟩
theorem Cb (i:Int) (t:Tok):wj (.inl i) (.int i t)=true:=by simp [wj,zW]
theorem Cc (x:Str) (t:Tok):wj (.inr x) (.str x t)=true:=by simp [wj,JH]
theorem KS (a b:Int):decide ((Sum.inl a:Key)=Sum.inl b)=(a == b):=by
 by_cases e:a=b
 ·subst e; simp
 ·have h:¬ (Sum.inl a:Key)=Sum.inl b:=fun q=>e (Sum.inl.inj q);rw [decide_eq_false h];exact (beq_eq_false_iff_ne.mpr e).symm
theorem KU (a b:Str):decide ((Sum.inr a:Key)=Sum.inr b)=decide (a=b):=by
 by_cases e:a=b
 ·subst e; simp
 ·have h:¬ (Sum.inr a:Key)=Sum.inr b:=fun q=>e (kO q);rw [decide_eq_false h,decide_eq_false e]
theorem KW (a:Int) (b:Str):decide ((Sum.inl a:Key)=Sum.inr b)=false:=decide_eq_false (fun q=>nomatch q)
theorem KY (a:Str) (b:Int):decide ((Sum.inr a:Key)=Sum.inl b)=false:=decide_eq_false (fun q=>nomatch q)
def eM (prog:aJ) (w:bJ):JI prog w Key where
 is:=wj
 hash:=keyH w
 inj:=fun v a b ha hb=>by
  rcases fY ha with ⟨i,t,rfl,rfl⟩ | ⟨x,t,rfl,rfl⟩
  ·rcases fY hb with ⟨j,u,rfl,e⟩ | ⟨y,u,rfl,e⟩
   ·injection e with e1 _; rw [e1]
   ·exact nomatch e
  ·rcases fY hb with ⟨j,u,rfl,e⟩ | ⟨y,u,rfl,e⟩
   ·exact nomatch e
   ·injection e with e1 _; rw [e1]
 byValue:=fun k v h=>by
  rcases fY h with ⟨i,t,rfl,rfl⟩ | ⟨x,t,rfl,rfl⟩ <;> rfl
 pyHash:=fun hv h=>by
  rcases fY hv with ⟨i,t,rfl,rfl⟩ | ⟨x,t,rfl,rfl⟩
  ·exact wpAny_pyHash_int h
  ·exact wpAny_pyHash_str h
 eqBool:=fun hu hv h=>by
  rcases fY hu with ⟨i,t,rfl,rfl⟩ | ⟨x,t,rfl,rfl⟩
  ·rcases fY hv with ⟨j,u,rfl,rfl⟩ | ⟨y,u,rfl,rfl⟩
   ·rw [KS] at h; exact wpAny_eqBool_int h
   ·rw [KW] at h; exact yy i t y u _ _ _ _ h
  ·rcases fY hv with ⟨j,u,rfl,rfl⟩ | ⟨y,u,rfl,rfl⟩
   ·rw [KY] at h; exact yz x t j u _ _ _ _ h
   ·rw [KU] at h; exact wpAny_eqBool_str h
 «strs»:=fun k x t v h=>by
  rcases fY h with ⟨i,u,rfl,e⟩ | ⟨y,u,rfl,e⟩
  ·exact nomatch e
  ·injection e with e1 _;subst e1
   cases v <;> rfl
theorem yJ (prog:aJ) (w:bJ) (i:Int) (t:Tok):(eM prog w).is (.inl i) (.int i t)=true:=Cb i t
theorem yK (prog:aJ) (w:bJ) (x:Str) (t:Tok):(eM prog w).is (.inr x) (.str x t)=true:=Cc x t
inductive V where
 | non | bl (b:Bool) | int (i:Int) | str (x:Str) | byt (b:Array UInt8) | flt (b:UInt64) | ref (a:aa) | ty (n:String)
 deriving DecidableEq
def RelV:V->ae->Prop
 | .non,u=>u=Value.none
 | .bl b,u=>u=Value.bool b
 | .int i,u=>∃ t,u=Value.int i t
 | .str x,u=>∃ t,u=Value.str x t
 | .byt b,u=>∃ t,u=Value.bytes b t
 | .flt b,u=>∃ t,u=Value.float b t
 | .ref a,u=>u=Value.ref a
 | .ty n,u=>u=Value.type n
abbrev cU:List V->List ae->Prop:=aP RelV
theorem cU.length {xs:List V} {us:List ae} (r:cU xs us):xs.length=us.length:=aZ r
theorem cU.get:∀ {xs:List V} {us:List ae} {i:Nat} {x:V},cU xs us->xs[i]?=some x->∃ u,us[i]?=some u/\RelV x u
 | _,_,_,_,.nil,e=>by simp at e
 | _,_,0,_,.cons r _,e=>by simp at e; subst e; exact ⟨_,rfl,r⟩
 | _,_,i + 1,x,.cons _ t,e=>by
  obtain ⟨u,h1,h2⟩:=cU.get (i:=i) (x:=x) t (by simpa using e);exact ⟨u,by simpa using h1,h2⟩
theorem cU.set {x:V} {u:ae} (r:RelV x u):∀ {xs:List V} {us:List ae} (i:Nat),cU xs us->cU (xs.set i x) (us.set i u)
 | _,_,_,.nil=>.nil
 | _,_,0,.cons _ t=>.cons r t
 | _,_,i + 1,.cons q t=>.cons q (cU.set r i t)
theorem cU.append:∀ {xs ys:List V} {us ws:List ae},cU xs us->cU ys ws->cU (xs++ys) (us++ws)
 | _,_,_,_,.nil,s=>s
 | _,_,_,_,.cons r t,s=>.cons r (cU.append t s)
theorem cU.take:∀ {xs:List V} {us:List ae} (n:Nat),cU xs us->cU (xs.take n) (us.take n)
 | _,_,0,_=>.nil
 | _,_,_ + 1,.nil=>.nil
 | _,_,n + 1,.cons r t=>.cons r (cU.take n t)
theorem cU.drop:∀ {xs:List V} {us:List ae} (n:Nat),cU xs us->cU (xs.drop n) (us.drop n)
 | _,_,0,r=>r
 | _,_,_ + 1,.nil=>.nil
 | _,_,n + 1,.cons _ t=>cU.drop n t
def pX:Option V->Option ae->Prop
 | some v,some u=>RelV v u
 | none,none=>True
 | _,_=>False
def KV {κ:Type}:List (κ×V)->List (κ×ae)->Prop:=aP fun (p:κ×V) (q:κ×ae)=>p.1=q.1/\RelV p.2 q.2
def kV:Key->V
 | .inl i=>.int i
 | .inr x=>.str x
inductive HO where
 /-- a list -/
 | lst (xs:List V)
 /-- a tuple (never changes) -/
 | tup (xs:List V)
 /-- a dict whose keys are ints and texts; one whose keys are tuples of ints and texts (the empty one is both) -/
 | dK (kvs:List (Key×V)) | dT (kvs:List (List Key×V))
 /-- a set of ints: its members, its size -/
 | set (S:Int->Bool) (n:Nat)
 /-- an instance of the class at C, its dict at dx, its attributes -/
 | ins (C dx:aa) (fs:List (Str×V))
 /-- the dict of the instance at x -/
 | own (x:aa)
 /-- the dict of an exception -/
 | xd (fs:List (Str×V))
 /-- a bound method, f of x -/
 | met (f x:aa)
 /-- a range object lo, lo + 1, .. below hi -/
 | rng (lo hi:Int)
 /-- a thing that is known to the object (the script; a dict while a loop walks it): read, never written while it is so -/
 | frz (o:Obj) (u:HO)
 /-- a code object's table -/
 | tbl (ps:Array ae)
 /-- any other thing, by what is true of its one object (a def of one's own: SetO a S n := HO.ext fun h => ..) -/
 | ext (φ:cu->Prop)
abbrev Hp:=aa->Option HO
def upd (H:Hp) (a:aa) (o:HO):Hp:=fun b=>if b=a then some o else H b
theorem ah {H:Hp} {a:aa} {o:HO}:upd H a o a=some o:=by unfold upd; rw [if_pos rfl]
theorem aH {H:Hp} {a b:aa} {o:HO} (h:b≠a):upd H a o b=H b:=by unfold upd; rw [if_neg h]
theorem A0 {H:Hp} {a:aa} {o u:HO}:upd (upd H a o) a u=upd H a u:=by
 funext b; unfold upd; split <;> rfl
theorem nF {H:Hp} {a b:aa} {o u:HO} (h:H a=some o) (h':H b=some u) (d:o≠u):a≠b:=by
 intro e; subst e; rw [h] at h'; exact d (dH h')
theorem av {H:Hp} {a b:aa} {o:HO} (h:H a=some o) (h':H b=none):a≠b:=by
 intro e; subst e; rw [h] at h'; cases h'
section
variable (P:aJ) (w:bJ)
def eB (H:Hp) (h:cu) (a:aa):HO->Prop
 | .lst xs=>xs.length<=aB/\∃ (its:List ae) (n:Nat),cU xs its/\h.get? a=some {cls:=.type "list",data:=.seq its.toArray n}
 | .tup xs=>xs.length<=aB/\∃ its:List ae,cU xs its/\tS h a its.toArray
 | .dK kvs=>kvs.length<=aB/\(a == eQ)=false/\∃ vs,KV kvs vs/\h.DictOf (eM P w) a vs
 | .dT kvs=>kvs.length<=aB/\(a == eQ)=false/\∃ xs:List (List Key×aa×ae),
   aP (fun (p:List Key×V) (q:List Key×aa×ae)=>p.1=q.1/\H q.2.1=some (.tup (p.1.map kV))/\RelV p.2 q.2.2) kvs xs /\
   ∃ o es ep,h.get? a=some o/\o.ExactDict/\o.data=.dict es ep/\es.toList=xs.map (entryOfKey (xl (eM P w)))/\(xs.map (·.1)).Nodup
 | .set S n=>h.SetOf (intKind P w) a S n
 | .ins C dx fs=>H dx=some (.own a)/\fs.length<=1000/\dx≠a/\h.get? a=some (gu C dx) /\
   ∃ mA,h.Ns1 dx mA/\(∀ f,pX (fs.lookup f) (mA f))/\yL mA (fs.map (·.1))
 | .own _=>∃ o,h.get? a=some o
 | .xd fs=>∃ mA,h.Ns1 a mA/\∀ f,pX (fs.lookup f) (mA f)
 | .rng lo hi=>∃ t u v,h.get? a=some {cls:=.type "range",data:=.fields #[.int lo t,.int hi u,.int 1 v]}
 | .frz o u=>h.get? a=some o/\eB H h a u
 | .tbl ps=>h.get? a=some {cls:=.none,data:=.fields ps}
 | .met f x=>h.get? a=some (qG (.ref f) (.ref x))
 | .ext φ=>φ h/\(∃ o,h.get? a=some o)/\∀ h1 h2:cu,φ h1->(∀ o,h1.get? a=some o->h2.get? a=some o)->φ h2
def HOk (H:Hp) (h:cu):Prop:=∀ a o,H a=some o->eB P w H h a o
end
section
variable {P:aJ} {w:bJ} {H H':Hp} {h h':cu} {a:aa} {o:HO}
theorem eB.lt (x:eB P w H h a o):a < h.objs.size:=by
 cases o with
 | lst xs=>obtain ⟨_,_,_,_,e⟩:=x; exact aN e
 | tup xs=>obtain ⟨_,_,_,p⟩:=x; exact p.lt
 | dK kvs=>obtain ⟨_,_,_,_,o,_,_,e,_⟩:=x; exact aN e
 | dT kvs=>obtain ⟨_,_,_,_,o,_,_,e,_⟩:=x; exact aN e
 | set S n=>obtain ⟨o,_,_,_,e,_⟩:=x; exact aN e
 | ins C dx fs=>obtain ⟨_,_,_,e,_⟩:=x; exact aN e
 | own y=>obtain ⟨_,e⟩:=x; exact aN e
 | xd fs=>obtain ⟨_,⟨_,_,_,e,_⟩,_⟩:=x; exact aN e
 | rng lo hi=>obtain ⟨_,_,_,e⟩:=x; exact aN e
 | frz ob u=>obtain ⟨e,_⟩:=x; exact aN e
 | tbl ps=>exact aN (show h.get? a=some _ from x)
 | met f y=>exact aN (show h.get? a=some _ from x)
 | ext φ=>obtain ⟨_,⟨_,e⟩,_⟩:=x; exact aN e
theorem Paired.mapP {α β:Type} {F G:α->β->Prop}:∀ {l₁:List α} {l₂:List β},aP F l₁ l₂->(∀ a b,F a b->G a b)->aP G l₁ l₂
 | _,_,.nil,_=>.nil
 | _,_,.cons r t,f=>.cons (f _ _ r) (Paired.mapP t f)
theorem Paired.imp' {α β:Type} {F G:α->β->Prop} (f:∀ a b,F a b->G a b) {l₁:List α} {l₂:List β} (r:aP F l₁ l₂):aP G l₁ l₂:=Paired.mapP r f
theorem eB.stay (x:eB P w H h a o) (k:∀ b u,(b=a\/H b=some (.own a))->h.get? b=some u->h'.get? b=some u)
  (ho:∀ b,H b=some (.own a)->H' b=some (.own a)) (ht:∀ b xs,H b=some (.tup xs)->H' b=some (.tup xs)):eB P w H' h' a o:=by
 induction o with
 | lst xs=>obtain ⟨z,its,n,r,e⟩:=x; exact ⟨z,its,n,r,k _ _ (.inl rfl) e⟩
 | tup xs=>obtain ⟨z,its,r,ob,e,c⟩:=x; exact ⟨z,its,r,ob,k _ _ (.inl rfl) e,c⟩
 | dK kvs=>obtain ⟨z,y,vs,r,ob,es,ep,e,c⟩:=x; exact ⟨z,y,vs,r,ob,es,ep,k _ _ (.inl rfl) e,c⟩
 | dT kvs =>
  obtain ⟨z,y,xs,r,ob,es,ep,e,c⟩:=x;exact ⟨z,y,xs,Paired.mapP r fun p q z=>⟨z.1,ht _ _ z.2.1,z.2.2⟩,ob,es,ep,k _ _ (.inl rfl) e,c⟩
 | set S n=>obtain ⟨ob,es,ep,t,e,c⟩:=x; exact ⟨ob,es,ep,t,k _ _ (.inl rfl) e,c⟩
 | ins C dx fs =>
  obtain ⟨d,z,ne,e,mA,⟨od,es,ep,e2,c⟩,r⟩:=x;exact ⟨ho _ d,z,ne,k _ _ (.inl rfl) e,mA,⟨od,es,ep,k _ _ (.inr d) e2,c⟩,r⟩
 | own y=>obtain ⟨ob,e⟩:=x; exact ⟨ob,k _ _ (.inl rfl) e⟩
 | xd fs=>obtain ⟨mA,⟨od,es,ep,e,c⟩,r⟩:=x; exact ⟨mA,⟨od,es,ep,k _ _ (.inl rfl) e,c⟩,r⟩
 | rng lo hi=>obtain ⟨t,u,v,e⟩:=x; exact ⟨t,u,v,k _ _ (.inl rfl) e⟩
 | frz ob u ih=>obtain ⟨e,q⟩:=x; exact ⟨k _ _ (.inl rfl) e,ih q⟩
 | tbl ps =>
  have e:h.get? a=some {cls:=.none,data:=.fields ps}:=x;show h'.get? a=some {cls:=.none,data:=.fields ps};exact k a _ (.inl rfl) e
 | met f y =>
  have e:h.get? a=some (qG (.ref f) (.ref y)):=x;show h'.get? a=some (qG (.ref f) (.ref y));exact k a _ (.inl rfl) e
 | ext φ=>obtain ⟨p,⟨o,e⟩,st⟩:=x; exact ⟨st _ _ p fun o q=>k _ _ (.inl rfl) q,⟨o,k _ _ (.inl rfl) e⟩,st⟩
theorem HOk.lt (x:HOk P w H h) (e:H a=some o):a < h.objs.size:=(x a o e).lt
theorem HOk.fresh (x:HOk P w H h) (e:h.objs.size<=a):H a=none:=by
 cases q:H a with
 | none=>rfl
 | some u=>exact absurd (bh (x.lt q) e) (gJ _)
theorem HOk.kept (x:HOk P w H h) (k:∀ b u,h.get? b=some u->h'.get? b=some u):HOk P w H h':=fun a o e =>
 (x a o e).stay (fun b u _ q=>k b u q) (fun _ q=>q) fun _ _ q=>q
theorem HOk.laid (x:HOk P w H h) (k:∀ b u,h.get? b=some u->h'.get? b=some u) (hp:h.objs.size<=a) (new:eB P w (upd H a o) h' a o):HOk P w (upd H a o) h':=fun b u e=>by
 have hn:=x.fresh hp
 by_cases hb:b=a
 ·subst hb; rw [ah] at e; cases e; exact new
 ·rw [aH hb] at e;exact (x b u e).stay (fun c v _ q=>k c v q) (fun c q=>by rw [aH (av q hn)]; exact q) fun c xs q=>by rw [aH (av q hn)]; exact q
end
def Rd (H:Hp) (a:aa) (u:HO):Prop:=H a=some u\/∃ o,H a=some (.frz o u)
theorem Rd.ok {P:aJ} {w:bJ} {H:Hp} {h:cu} {a:aa} {u:HO} (r:Rd H a u) (x:HOk P w H h):eB P w H h a u:=by
 rcases r with r | ⟨o,r⟩
 ·exact x a u r
 ·obtain ⟨_,q⟩:=x a _ r;exact q
def Mut:Option HO->Prop
 | some (.lst _)=>True
 | some (.dK _)=>True
 | some (.dT _)=>True
 | some (.set _ _)=>True
 | some (.ins _ _ _)=>True
 | some (.ext _)=>True
 | _=>False
section
variable {P:aJ} {w:bJ} {H:Hp} {h h':cu} {x e:aa} {o':HO}
theorem HOk.write (ok:HOk P w H h) (mu:Mut (H x)) (he:e=x\/H e=some (.own x)) (k:∀ b u,b≠e->h.get? b=some u->h'.get? b=some u) (heo:∃ u,h'.get? e=some u)
  (new:eB P w (upd H x o') h' x o'):HOk P w (upd H x o') h':=fun b u q=>by
 have nown:∀ c y,H c=some (.own y)->c≠x:=fun c y r z=>by subst z; rw [r] at mu; exact mu
 have ntup:∀ c xs,H c=some (.tup xs)->c≠x:=fun c xs r z=>by subst z; rw [r] at mu; exact mu
 by_cases hb:b=x
 ·subst hb; rw [ah] at q; cases q; exact new
 ·rw [aH hb] at q
  by_cases hbe:b=e
  ·have q':H b=some (.own x):=by
    rcases he with z | z
    ·exact absurd (hbe.trans z) hb
    ·rw [hbe]; exact z
   rw [q] at q'; cases q';obtain ⟨v,hv⟩:=heo;exact ⟨v,by rw [hbe]; exact hv⟩
  ·refine (ok b u q).stay (fun c v hc r=>k c v ?_ r) (fun c r=>by rw [aH (nown c b r)]; exact r) fun c xs r=>by rw [aH (ntup c xs r)]; exact r
   rcases hc with rfl | hc
   ·exact hbe
   ·rintro rfl
    rcases he with z | z
    ·exact nown c b hc z
    ·rw [hc] at z; cases z; exact hb rfl
end
structure Un (fs ex:List aa) (H H':Hp) (h h':cu):Prop where
 keep:∀ b o,h.get? b=some o->H b=none->b∉fs->b∉ex->h'.get? b=some o
 slot:∀ b o,h.get? b=some o->H b=none->b∈fs->b∉ex->∃ sl,h'.get? b=some {o with slots:=sl}
 free:∀ b o,h.get? b=some o->H b=none->b∉ex->H' b=none
 there:∀ b o,h.get? b=some o->b∉ex->∃ o',h'.get? b=some o'
 tups:∀ b xs,H b=some (.tup xs)->H' b=some (.tup xs)
 frzs:∀ b o u,H b=some (.frz o u)->H' b=some (.frz o u)
 tbls:∀ b ps,H b=some (.tbl ps)->∃ more,H' b=some (.tbl (ps++more))
section
variable {fs fs' ex ex':List aa} {H H1 H2:Hp} {h h1 h2 h':cu} {a x e:aa} {o:HO}
theorem Un.any (u:Un fs ex H H1 h h1) {b:aa} {ob:Obj} (q:h.get? b=some ob) (n:H b=none) (hx:b∉ex):∃ sl,h1.get? b=some {ob with slots:=sl}:=by
 by_cases hb:b∈fs
 ·exact u.slot b ob q n hb hx
 ·exact ⟨ob.slots,u.keep b ob q n hb hx⟩
theorem Un.kept (k:∀ b u,h.get? b=some u->h'.get? b=some u):Un fs ex H H h h':=
 ⟨fun b ob q _ _ _=>k b ob q,fun b ob q _ _ _=>⟨ob.slots,k b ob q⟩,fun _ _ _ n _=>n,fun b ob q _=>⟨ob,k b ob q⟩,fun _ _ q=>q,fun _ _ _ q=>q,fun _ ps q=>⟨#[],by rw [q]; simp⟩⟩
theorem Un.refl:Un fs ex H H h h:=Un.kept fun _ _ q=>q
theorem Un.laid (k:∀ b u,h.get? b=some u->h'.get? b=some u) (hp:h.objs.size<=a) (hn:H a=none):Un fs ex H (upd H a o) h h' where
 keep:=fun b u q _ _ _=>k b u q
 slot:=fun b u q _ _ _=>⟨u.slots,k b u q⟩
 free:=fun b u q n _=>by rw [aH (aO (bh (aN q) hp))]; exact n
 there:=fun b u q _=>⟨u,k b u q⟩
 tups:=fun b xs q=>by rw [aH (av q hn)]; exact q
 frzs:=fun b u xs q=>by rw [aH (av q hn)]; exact q
 tbls:=fun b ps q=>⟨#[],by rw [aH (av q hn),q]; simp⟩
theorem Un.write (mu:Mut (H x)) (he:e=x\/H e=some (.own x)) (k:∀ b u,b≠e->h.get? b=some u->h'.get? b=some u) (heo:∃ u,h'.get? e=some u):Un fs ex H (upd H x o) h h':=by
 have hx:∀ b,H b=none->b≠x:=fun b n z=>by subst z; rw [n] at mu; exact mu
 have hb:∀ b,H b=none->b≠e:=fun b n z=>by
  subst z
  rcases he with r | r
  ·exact hx b n r
  ·rw [n] at r; cases r
 have hm:∀ b u,H b=some u->¬ Mut (some u)->b≠x:=fun b u q nm z=>by subst z; rw [q] at mu; exact nm mu
 refine ⟨fun b u q n _ _=>k b u (hb b n) q,fun b u q n _ _=>⟨u.slots,k b u (hb b n) q⟩,fun b u q n _=>by rw [aH (hx b n)]; exact n,fun b u q _=>?_,
  fun b xs q=>by rw [aH (hm b _ q fun z=>z)]; exact q,fun b u xs q=>by rw [aH (hm b _ q fun z=>z)]; exact q,fun b ps q=>⟨#[],by rw [aH (hm b _ q fun z=>z),q]; simp⟩⟩
 by_cases hbe:b=e
 ·subst hbe; exact heo
 ·exact ⟨u,k b u hbe q⟩
end
def trk (h:cu) (H:Hp):List aa:=(oh h.objs.size).filter fun a=>(H a).isSome
def xm (h:cu) (H:Hp):cu:=nG h (trk h H)
theorem Cd (h:cu) (H:Hp):(xm h H).objs.size=h.objs.size:=PySem.W.hideAll_size _ _
theorem Ef {h:cu} {H:Hp} {b:aa} {o:Obj} (e:h.get? b=some o) (n:H b=none):(xm h H).get? b=some o:=
 zM _ e fun hm=>by
  have q:(H b).isSome=true:=(HF.mp hm).2;rw [n] at q; simp at q
theorem HG {h:cu} {H:Hp} {b:aa} {o:Obj} (e:(xm h H).get? b=some o):h.get? b=some o/\H b=none:=by
 have e':h.get? b=some o:=zX (trk h H) e;refine ⟨e',?_⟩
 cases q:H b with
 | none=>rfl
 | some x =>
  have hm:b∈trk h H:=HF.mpr ⟨JJ.mpr (aN e'),by simp [q]⟩;have z:(xm h H).get? b=none:=PySem.W.hideAll_none (trk h H) hm;rw [z] at e; cases e
structure Mod (K:af) (mg:Str->Option ae) (base:cu):Prop where
 kin:K.In base
 glob:base.Ns aW mg
 blt:∃ mb,base.Ns KZ mb/\∀ x:Str,x≠"__name__"->mb x=eE x
 nolimit:base.NoLimit
structure Cx where
 prog:aJ
 w:bJ
 K:af
 mg:Str->Option ae
 base:cu
 A:bS
 N:List Str
 s₀:ak
 H₀:Hp
 env:Env
 outer:List Env
 stack:List Env
 ex:List aa
 fn:Str->Bool
 calm:Bool
 pn:List (aa×Obj)
 xe:ae->ak->Prop
def frs (l:List Env):List aa:=l.filterMap (·.frame)
abbrev Cx.fs (X:Cx):List aa:=frs X.outer
def Vis (sc:kE) (x:Str):Prop:=sc.names.lookup x=some .local\/sc.names.lookup x=some .cell\/sc.names.lookup x=some .free
def Loc (sc:kE) (x:Str):Prop:=sc.names.lookup x=some .local\/sc.names.lookup x=some .cell
def Look (env:Env) (h:cu) (m:Str->Option ae) (x:Str) (u:ae):Prop:=
 (env.kindOf x=some .local/\m x=some u)\/((env.kindOf x=some .cell\/env.kindOf x=some .free)/\∃ c,env.cells.lookup x=some c/\h.IsCell c (some u))
structure Cx.Ok (X:Cx):Prop where
 mod:Mod X.K X.mg X.base
 kind:X.env.scope.kind=.function
 glob:X.env.globals=aW
 blt:X.env.builtins=KZ
 above:X.s₀.heap.objs.size<=X.env.locals
 inj:∀ x y c,X.env.cells.lookup x=some c->X.env.cells.lookup y=some c->x=y
 has:∀ x,(X.env.kindOf x=some .cell\/X.env.kindOf x=some .free)->∃ c,X.env.cells.lookup x=some c
 cab:∀ x c,X.fn x=true->X.env.cells.lookup x=some c->X.s₀.heap.objs.size<=c
 hd:X.calm=true->X.A.handled=none
 frames:X.A.frames=some X.stack
 stk:X.stack=X.outer\/(X.stack=X.env :: X.outer/\X.env.frame=some X.env.locals)
 exf:∀ b∈X.ex,b≠X.env.locals/\∀ x c,X.env.cells.lookup x=some c->c≠b
 bs:∀ b o,X.base.get? b=some o->X.s₀.heap.get? b=some o/\X.H₀ b=none
 bsz:X.base.objs.size<=X.s₀.heap.objs.size
 noex:∀ b o,X.base.get? b=some o->b∉X.ex
 exfs:∀ b∈X.ex,b∉X.fs
 funs:X.s₀.heap.FunFrames X.base X.outer
 frf:∀ b∈X.fs,X.H₀ b=none
structure Inv (X:Cx) (pins:List (aa×Obj)) (σ:List (Option V)) (H:Hp) (s:ak):Prop where
 ok:X.Ok
 os:s.os=X.s₀.os
 bare:oj s.gens
 base:Un X.fs X.ex X.H₀ H X.s₀.heap s.heap
 loc:∃ m,s.heap.Ns X.env.locals m/\∀ (i:Nat) (x:Str) (v:V),X.N[i]?=some x->σ[i]?=some (some v)->Vis X.env.scope x->∃ u,RelV v u/\Look X.env s.heap m x u
 cell:∀ x c,X.env.cells.lookup x=some c->∃ v,s.heap.IsCell c v
 free:H X.env.locals=none
 freeC:∀ x c,X.env.cells.lookup x=some c->H c=none
 pin:∀ p∈X.pn++pins,s.heap.get? p.1=some p.2/\H p.1=none/\p.1≠X.env.locals/\p.1∉X.fs/\∀ v,p.2.data≠.cell v
 hok:HOk X.prog X.w H s.heap
 len:σ.length=X.N.length
section
variable {X:Cx} {pins:List (aa×Obj)} {σ:List (Option V)} {H H':Hp} {s:ak} {h':cu}
theorem Cx.Ok.nofr (ok:X.Ok) {b:aa} {o:Obj} (e:X.base.get? b=some o):b∉X.fs:=fun hb=>by
 have:=(ok.funs.mem hb).1;rw [e] at this; cases this
theorem Inv.bs (I:Inv X pins σ H s):∀ b o,X.base.get? b=some o->s.heap.get? b=some o/\H b=none:=fun b o e =>
 ⟨I.base.keep b o (I.ok.bs b o e).1 (I.ok.bs b o e).2 (I.ok.nofr e) (I.ok.noex b o e),I.base.free b o (I.ok.bs b o e).1 (I.ok.bs b o e).2 (I.ok.noex b o e)⟩
theorem Inv.bk (I:Inv X pins σ H s):∀ b o,X.base.get? b=some o->s.heap.get? b=some o:=fun b o e=>(I.bs b o e).1
theorem Inv.mod (I:Inv X pins σ H s):Mod X.K X.mg X.base:=I.ok.mod
theorem Inv.kIn (I:Inv X pins σ H s):X.K.In s.heap:=I.ok.mod.kin.keeps I.bk
theorem Inv.fr (I:Inv X pins σ H s):∃ m,Fr X.base X.env.locals s.heap m:=
 let ⟨m,hn,_⟩:=I.loc
 ⟨m,hn,I.bk,cZ I.ok.bsz I.ok.above⟩
theorem Inv.lt (I:Inv X pins σ H s):X.env.locals < s.heap.objs.size:=let ⟨_,hn,_⟩:=I.loc; hn.lt
theorem Inv.sz (I:Inv X pins σ H s):X.s₀.heap.objs.size<=s.heap.objs.size:=cZ I.ok.above (kF I.lt)
theorem Inv.nofs (I:Inv X pins σ H s) {a:aa} (h:s.heap.objs.size<=a):a∉X.fs:=fun hb=>by
 obtain ⟨_,o,ho,_⟩:=I.ok.funs.mem hb;exact absurd (bh (aN ho) (cZ I.sz h)) (gJ _)
theorem Inv.cne (I:Inv X pins σ H s):∀ x c,X.env.cells.lookup x=some c->c≠X.env.locals:=fun x c e z=>by
 obtain ⟨v,o,ho,hd⟩:=I.cell x c e;obtain ⟨m,⟨o',es,ep,ho',hd',_⟩,_⟩:=I.loc;rw [z,ho'] at ho; cases ho; rw [hd'] at hd; cases hd
theorem Inv.funs (I:Inv X pins σ H s):s.heap.FunFrames X.base X.outer:=by
 have all:∀ (l:List Env),(∀ b∈frs l,b∈X.fs)->X.s₀.heap.FunFrames X.base l->s.heap.FunFrames X.base l:=by
  intro l
  induction l with
  | nil=>intro _ _; trivial
  | cons env r ih =>
   intro hs hl;obtain ⟨hk,⟨L,o,hf,hn,ho,hd⟩,hr⟩:=hl;have hL:L∈X.fs:=hs L (by unfold frs; rw [qD,hf]; exact ax);obtain ⟨sl,e⟩:=I.base.slot L o ho (I.ok.frf L hL) hL fun z=>I.ok.exfs L z hL;exact ⟨hk,⟨L,_,hf,hn,e,hd⟩,ih (fun b hb=>hs b (by unfold frs; rw [qD,hf]; exact ag _ hb)) hr⟩
 exact all X.outer (fun _ hb=>hb) I.ok.funs
theorem Inv.stack (I:Inv X pins σ H s):s.heap.FunFrames X.base X.stack:=by
 rcases I.ok.stk with e | ⟨e,hf⟩
 ·rw [e]; exact I.funs
 ·rw [e];obtain ⟨m,hn,_⟩:=I.loc;refine .cons (by rw [I.ok.kind]; decide) hf hn ?_ I.funs;exact Heap.get?_none_of_le (cZ I.ok.bsz I.ok.above)
theorem Inv.stkSub (I:Inv X pins σ H s):∀ b∈frs X.stack,b∈X.env.locals :: X.fs:=fun b hb=>by
 rcases I.ok.stk with e | ⟨e,hf⟩
 ·rw [e] at hb; exact ag _ hb
 ·rw [e] at hb;unfold frs at hb;rw [qD,hf] at hb;exact hb
theorem Inv.stkFree (I:Inv X pins σ H s):∀ b∈frs X.stack,H b=none:=fun b hb=>by
 rcases au.mp (I.stkSub b hb) with e | hb
 ·rw [e]; exact I.free
 ·obtain ⟨_,o,ho,_⟩:=I.ok.funs.mem hb;exact I.base.free b o ho (I.ok.frf b hb) fun z=>I.ok.exfs b z hb
theorem Inv.step {g':Array GenState} {t':Nat} {d':Drawn} {ch:List aa} (I:Inv X pins σ H s)
  (hch:∀ b∈ch,(b∈X.ex\/X.s₀.heap.objs.size<=b)/\b≠X.env.locals/\(∀ x c,X.env.cells.lookup x=some c->c≠b)/\∀ p∈X.pn++pins,p.1≠b)
  (keep:∀ b o,b≠X.env.locals->b∉X.fs->b∉ch->s.heap.get? b=some o->H b=none->h'.get? b=some o)
  (slot:∀ b o,b≠X.env.locals->b∈X.fs->b∉ch->s.heap.get? b=some o->H b=none->∃ sl,h'.get? b=some {o with slots:=sl}) (free:∀ b o,b∉ch->s.heap.get? b=some o->H b=none->H' b=none)
  (there:∀ b o,b∉ch->s.heap.get? b=some o->∃ o',h'.get? b=some o')
  (tups:∀ b xs,H b=some (.tup xs)->H' b=some (.tup xs)) (frzs:∀ b o u,H b=some (.frz o u)->H' b=some (.frz o u)) (tbls:∀ b ps,H b=some (.tbl ps)->∃ more,H' b=some (.tbl (ps++more)))
  (ns:∀ m,s.heap.Ns X.env.locals m->h'.Ns X.env.locals m) (hok:HOk X.prog X.w H' h') (hg:oj g') :
  Inv X pins σ H' {s with heap:=h',gens:=g',drawn:=d',toks:=t'}:=by
 have neL:∀ b o,X.s₀.heap.get? b=some o->b≠X.env.locals:=fun b o e=>aO (bh (aN e) I.ok.above);have neC:∀ b o,X.s₀.heap.get? b=some o->b∉X.ex->b∉ch:=fun b o e hx hb=>by
  rcases (hch b hb).1 with z | z
  ·exact hx z
  ·exact absurd (bh (aN e) z) (gJ _)
 have cellK:∀ x c,X.env.cells.lookup x=some c->∀ v,s.heap.IsCell c v->h'.IsCell c v:=fun x c e v ⟨o,ho,hd⟩=>by
  have nch:c∉ch:=fun z=>(hch c z).2.2.1 x c e rfl
  by_cases hc:c∈X.fs
  ·obtain ⟨sl,q⟩:=slot c o (I.cne x c e) hc nch ho (I.freeC x c e);exact ⟨_,q,hd⟩
  ·exact ⟨o,keep c o (I.cne x c e) hc nch ho (I.freeC x c e),hd⟩
 refine ⟨I.ok,I.os,hg,⟨fun b o e n hb hx=>?_,fun b o e n hb hx=>?_,fun b o e n hx=>?_,fun b o e hx=>?_,fun b xs e=>tups b xs (I.base.tups b xs e),fun b o xs e=>frzs b o xs (I.base.frzs b o xs e),fun b ps e=>?_⟩,?_,fun x c e=>?_,?_,fun x c e=>?_,fun p hp=>?_,hok,I.len⟩
 ·exact keep b o (neL b o e) hb (neC b o e hx) (I.base.keep b o e n hb hx) (I.base.free b o e n hx)
 ·obtain ⟨sl,e1⟩:=I.base.slot b o e n hb hx;obtain ⟨sl',e2⟩:=slot b _ (neL b o e) hb (neC b o e hx) e1 (I.base.free b o e n hx);exact ⟨sl',e2⟩
 ·obtain ⟨o',e1⟩:=I.base.there b o e hx;exact free b o' (neC b o e hx) e1 (I.base.free b o e n hx)
 ·obtain ⟨o',e1⟩:=I.base.there b o e hx;exact there b o' (neC b o e hx) e1
 ·obtain ⟨m1,e1⟩:=I.base.tbls b ps e;obtain ⟨m2,e2⟩:=tbls b _ e1;exact ⟨m1++m2,by rw [e2,Array.append_assoc]⟩
 ·obtain ⟨m,hn,hl⟩:=I.loc;refine ⟨m,ns m hn,fun i x v e1 e2 e3=>?_⟩;obtain ⟨u,r,l⟩:=hl i x v e1 e2 e3;refine ⟨u,r,?_⟩
  rcases l with l | ⟨k,c,e,z⟩
  ·exact .inl l
  ·exact .inr ⟨k,c,e,cellK x c e _ z⟩
 ·obtain ⟨v,z⟩:=I.cell x c e;exact ⟨v,cellK x c e v z⟩
 ·obtain ⟨m,⟨o,_,_,ho,_⟩,_⟩:=I.loc;exact free _ o (fun z=>(hch _ z).2.1 rfl) ho I.free
 ·obtain ⟨v,o,ho,hd⟩:=I.cell x c e;exact free c o (fun z=>(hch c z).2.2.1 x c e rfl) ho (I.freeC x c e)
 ·obtain ⟨e,n,ne,nf,d⟩:=I.pin p hp;have nch:p.1∉ch:=fun z=>(hch p.1 z).2.2.2 p hp rfl;exact ⟨keep p.1 p.2 ne nf nch e n,free p.1 p.2 nch e n,ne,nf,d⟩
theorem Inv.un {t':Nat} (I:Inv X pins σ H s) (u:Un X.fs [] H H' s.heap h') (hok:HOk X.prog X.w H' h'):Inv X pins σ H' {s with heap:=h',toks:=t'}:=by
 obtain ⟨m,⟨o,es,ep,ho,r⟩,_⟩:=id I.loc;obtain ⟨sl,hL⟩:=u.any ho I.free (by simp);exact I.step (g':=s.gens) (d':=s.drawn) (ch:=[]) (fun _ z=>nomatch z) (fun b o _ hb _ e n=>u.keep b o e n hb (by simp)) (fun b o _ hb _ e n=>u.slot b o e n hb (by simp)) (fun b o _ e n=>u.free b o e n (by simp)) (fun b o _ e=>u.there b o e (by simp)) u.tups u.frzs u.tbls (fun m' hm=>by
  obtain ⟨o',es',ep',ho',r'⟩:=hm;rw [ho] at ho'; cases ho';exact ⟨_,es',ep',hL,r'⟩) hok I.bare
theorem Inv.call {g':Array GenState} {t':Nat} {d':Drawn} {ch:List aa} (I:Inv X pins σ H s) (u:Un (frs X.stack) ch H H' s.heap h') (hok:HOk X.prog X.w H' h') (hg:oj g')
  (hch:∀ b∈ch,(b∈X.ex\/X.s₀.heap.objs.size<=b)/\b≠X.env.locals/\(∀ x c,X.env.cells.lookup x=some c->c≠b)/\∀ p∈X.pn++pins,p.1≠b) :
  Inv X pins σ H' {s with heap:=h',gens:=g',drawn:=d',toks:=t'}:=by
 obtain ⟨m,⟨o,es,ep,ho,r⟩,_⟩:=id I.loc;obtain ⟨sl,hL⟩:=u.any ho I.free fun z=>(hch _ z).2.1 rfl;exact I.step (ch:=ch) hch (fun b o hL hb hc e n=>u.keep b o e n (fun z=>(au.mp (I.stkSub b z)).elim hL hb) hc) (fun b o _ _ hc e n=>u.any e n hc) (fun b o hc e n=>u.free b o e n hc) (fun b o hc e=>u.there b o e hc) u.tups u.frzs u.tbls (fun m' hm=>by
  obtain ⟨o',es',ep',ho',r'⟩:=hm;rw [ho] at ho'; cases ho';exact ⟨_,es',ep',hL,r'⟩) hok hg
theorem Inv.turned {t':Nat} {it:aa} (I:Inv X pins σ H s) (k:∀ b o,b≠it->s.heap.get? b=some o->h'.get? b=some o) (hn:H it=none) (hL:it≠X.env.locals)
  (h1:it∈X.ex\/X.s₀.heap.objs.size<=it) (h2:∀ x c,X.env.cells.lookup x=some c->c≠it) (h3:∀ p∈X.pn++pins,p.1≠it):Inv X pins σ H {s with heap:=h',toks:=t'}:=by
 have nit:∀ b u,H b=some u->b≠it:=fun b u e z=>by rw [z,hn] at e; cases e
 refine I.step (g':=s.gens) (d':=s.drawn) (ch:=[it]) (fun b hb=>?_) (fun b o _ _ hc e _=>k b o (fun z=>hc (by simp [z])) e) (fun b o _ _ hc e _=>⟨o.slots,k b o (fun z=>hc (by simp [z])) e⟩) (fun _ _ _ _ n=>n)
  (fun b o hc e=>⟨o,k b o (fun z=>hc (by simp [z])) e⟩) (fun _ _ e=>e) (fun _ _ _ e=>e) (fun b ps e=>⟨#[],by rw [e]; simp⟩) (fun m hm=>?_) (fun b u e=>?_) I.bare
 ·have e:b=it:=by simpa using hb
  subst e;exact ⟨h1,hL,h2,h3⟩
 ·obtain ⟨o,es,ep,ho,r⟩:=hm;exact ⟨o,es,ep,k _ o (fj hL) ho,r⟩
 ·refine (I.hok b u e).stay (fun c v hc q=>k c v ?_ q) (fun _ q=>q) fun _ _ q=>q
  rcases hc with z | z
  ·rw [z]; exact nit b u e
  ·exact nit c _ z
theorem Inv.tok (I:Inv X pins σ H s) (t:Nat):Inv X pins σ H {s with toks:=t}:=I.un (h':=s.heap) (t':=t) Un.refl I.hok
theorem Inv.kept {t':Nat} (I:Inv X pins σ H s) (k:∀ b u,s.heap.get? b=some u->h'.get? b=some u):Inv X pins σ H {s with heap:=h',toks:=t'}:=I.un (Un.kept k) (I.hok.kept k)
theorem Inv.laid {a:aa} {o:HO} {t':Nat} (I:Inv X pins σ H s) (k:∀ b u,s.heap.get? b=some u->h'.get? b=some u) (hp:s.heap.objs.size<=a) (new:eB X.prog X.w (upd H a o) h' a o) :
  Inv X pins σ (upd H a o) {s with heap:=h',toks:=t'}:=I.un (Un.laid k hp (I.hok.fresh hp)) (I.hok.laid k hp new)
theorem Inv.write {x e:aa} {o:HO} {t':Nat} (I:Inv X pins σ H s) (mu:Mut (H x)) (he:e=x\/H e=some (.own x)) (k:∀ b u,b≠e->s.heap.get? b=some u->h'.get? b=some u) (heo:∃ u,h'.get? e=some u)
  (new:eB X.prog X.w (upd H x o) h' x o):Inv X pins σ (upd H x o) {s with heap:=h',toks:=t'}:=I.un (Un.write mu he k heo) (I.hok.write mu he k heo new)
theorem Inv.weak {σ':List (Option V)} (I:Inv X pins σ H s) (hl:σ'.length=σ.length) (w:∀ (i:Nat) v,σ'[i]?=some (some v)->σ[i]?=some (some v)):Inv X pins σ' H s:=
 ⟨I.ok,I.os,I.bare,I.base,let ⟨m,hn,hl'⟩:=I.loc; ⟨m,hn,fun i x v e1 e2 e3=>hl' i x v e1 (w i v e2) e3⟩,I.cell,I.free,I.freeC,I.pin,I.hok,hl.trans I.len⟩
theorem Inv.pins_of {pins':List (aa×Obj)} (I:Inv X pins σ H s) (h:∀ p∈pins',s.heap.get? p.1=some p.2/\H p.1=none/\p.1≠X.env.locals/\p.1∉X.fs/\∀ v,p.2.data≠.cell v):Inv X pins' σ H s:=
 ⟨I.ok,I.os,I.bare,I.base,I.loc,I.cell,I.free,I.freeC,fun p hp=>(cq.mp hp).elim (fun z=>I.pin p (gE _ z)) (h p),I.hok,I.len⟩
theorem uz {N:List Str} (hN:N.Nodup) {i j:Nat} {x:Str} (a:N[i]?=some x) (b:N[j]?=some x):i=j:=by
 obtain ⟨h1,e1⟩:=aE.mp a;obtain ⟨h2,e2⟩:=aE.mp b;exact (List.getElem_inj hN).mp (e1.trans e2.symm)
theorem wx {M:HH} {A:bS} {E:ae->ak->Prop} {i:Nat} {x:Str} {v:V} {u:ae} {Q:Unit->ak->Prop} (I:Inv X pins σ H s) (hN:X.N.Nodup) (hi:X.N[i]?=some x) (hx:Loc X.env.scope x) (r:RelV v u)
  (h:∀ s',Inv X pins (σ.set i (some v)) H s'->(∃ a,sP a s.heap s'.heap/\(a=X.env.locals\/X.env.cells.lookup x=some a))->Q () s') (hf:X.fn x=true\/X.env.scope.names.lookup x=some .local:=by first | exact .inl rfl | exact .inr rfl | assumption):aU M A (storeName X.env x u) Q E s:=by
 obtain ⟨m,hn,hl⟩:=id I.loc;have hcls:(X.env.scope.kind == .class || (X.env.scope.kind == .module && X.env.locals != X.env.globals))=false:=by rw [I.ok.kind]; rfl
 have hiσ:i < σ.length:=by rw [I.len]; exact (aE.mp hi).1
 have cne:=I.cne;have tracked:∀ {a:aa} {h':cu},(∃ o,s.heap.get? a=some o/\H a=none)->sP a s.heap h'->HOk X.prog X.w H h':=fun {a h'} ha hs b ob e=>by
  obtain ⟨_,_,hfree⟩:=ha;refine (I.hok b ob e).stay (fun c w' hc q=>(hs.2 c ?_).trans q) (fun _ q=>q) fun _ _ q=>q;rintro rfl
  rcases hc with rfl | hc
  ·rw [hfree] at e; cases e
  ·rw [hfree] at hc; cases hc
 rcases hx with hk | hk
 ·refine wpAny_storeName_local hk hn (fun h' hn' hs=>?_) hcls;obtain ⟨oL,_,_,hoL,_⟩:=id hn;refine h _ ⟨I.ok,I.os,I.bare,⟨fun b o e n hb hx=>?_,fun b o e n hb hx=>?_,I.base.free,fun b o e hx=>?_,I.base.tups,I.base.frzs,I.base.tbls⟩,⟨_,hn',fun j y v' e1 e2 e3=>?_⟩,fun y c e=>?_,I.free,I.freeC,fun p hp=>?_,tracked ⟨oL,hoL,I.free⟩ hs,by simpa using I.len⟩ ⟨_,hs,.inl rfl⟩
  ·exact (hs.2 b (aO (bh (aN e) I.ok.above))).trans (I.base.keep b o e n hb hx)
  ·obtain ⟨sl,e1⟩:=I.base.slot b o e n hb hx;exact ⟨sl,(hs.2 b (aO (bh (aN e) I.ok.above))).trans e1⟩
  ·obtain ⟨o',e1⟩:=I.base.there b o e hx;exact ⟨o',(hs.2 b (aO (bh (aN e) I.ok.above))).trans e1⟩
  ·by_cases hj:j=i
   ·subst hj;rw [hi] at e1; cases e1;rw [eZ hiσ] at e2
    cases e2;exact ⟨u,r,.inl ⟨hk,by simp⟩⟩
   ·rw [iB (fj hj)] at e2;obtain ⟨u',r',q⟩:=hl j y v' e1 e2 e3;refine ⟨u',r',?_⟩
    rcases q with ⟨k,e⟩ | ⟨k,c,e,z⟩
    ·refine .inl ⟨k,?_⟩;have:y≠x:=fun e=>hj (uz hN e1 (e ▸ hi));simp [this,e]
    ·exact .inr ⟨k,c,e,z.sameBut hs (cne y c e)⟩
  ·obtain ⟨w',z⟩:=I.cell y c e;exact ⟨w',z.sameBut hs (cne y c e)⟩
  ·obtain ⟨e,n,ne,nf,d⟩:=I.pin p hp;exact ⟨(hs.2 p.1 ne).trans e,n,ne,nf,d⟩
 ·have hfn:X.fn x=true:=by
   rcases hf with z | z
   ·exact z
   ·rw [z] at hk; cases hk
  obtain ⟨c,hc⟩:=I.ok.has x (.inl hk);obtain ⟨w',z⟩:=I.cell x c hc;refine wpAny_storeName_cell I.ok.kind hk hc z (fun h' hc' hs=>?_);obtain ⟨oc,hoc,hocd⟩:=id z;refine h {s with heap:=h'} ⟨I.ok,I.os,I.bare,⟨fun b o e n hb hx=>?_,fun b o e n hb hx=>?_,I.base.free,fun b o e hx=>?_,I.base.tups,I.base.frzs,I.base.tbls⟩,⟨m,hn.sameBut hs (fj (cne x c hc)),fun j y v' e1 e2 e3=>?_⟩,fun y c' e=>?_,I.free,I.freeC,fun p hp=>?_,tracked ⟨oc,hoc,I.freeC x c hc⟩ hs,by simpa using I.len⟩ ⟨c,hs,.inr hc⟩
  ·exact (hs.2 b (aO (bh (aN e) (I.ok.cab x c hfn hc)))).trans (I.base.keep b o e n hb hx)
  ·obtain ⟨sl,e1⟩:=I.base.slot b o e n hb hx;exact ⟨sl,(hs.2 b (aO (bh (aN e) (I.ok.cab x c hfn hc)))).trans e1⟩
  ·obtain ⟨o',e1⟩:=I.base.there b o e hx;exact ⟨o',(hs.2 b (aO (bh (aN e) (I.ok.cab x c hfn hc)))).trans e1⟩
  ·by_cases hj:j=i
   ·subst hj;rw [hi] at e1; cases e1;rw [eZ hiσ] at e2
    cases e2;exact ⟨u,r,.inr ⟨.inl hk,c,hc,hc'⟩⟩
   ·rw [iB (fj hj)] at e2;obtain ⟨u',r',q⟩:=hl j y v' e1 e2 e3;refine ⟨u',r',?_⟩
    rcases q with q | ⟨k,c',e,z'⟩
    ·exact .inl q
    ·refine .inr ⟨k,c',e,z'.sameBut hs ?_⟩;rintro rfl;exact hj (uz hN e1 (I.ok.inj _ _ _ e hc ▸ hi))
  ·by_cases hcc:c'=c
   ·subst hcc; exact ⟨_,hc'⟩
   ·obtain ⟨w2,z2⟩:=I.cell y c' e;exact ⟨w2,z2.sameBut hs hcc⟩
  ·obtain ⟨e,n,ne,nf,d⟩:=I.pin p hp;refine ⟨(hs.2 p.1 ?_).trans e,n,ne,nf,d⟩;intro q;rw [q,hoc] at e;have q':oc=p.2:=dH e;exact d w' (by rw [<- q']; exact hocd)
theorem qH {M:HH} {A:bS} {E:ae->ak->Prop} {i:Nat} {x:Str} {v:V} {u:ae} {Q:Unit->ak->Prop} (I:Inv X pins σ H s) (hN:X.N.Nodup) (hi:X.N[i]?=some x) (hx:Loc X.env.scope x) (r:RelV v u)
  (h:∀ s',Inv X pins (σ.set i (some v)) H s'->Q () s') (hf:X.fn x=true\/X.env.scope.names.lookup x=some .local:=by first | exact .inl rfl | exact .inr rfl | assumption):aU M A (storeName X.env x u) Q E s:=
 wx I hN hi hx r (fun s' I' _=>h s' I') hf
theorem Inv.call' {s':ak} {ch:List aa} (I:Inv X pins σ H s) (ho:s'.os=s.os) (u:Un (frs X.stack) ch H H' s.heap s'.heap) (hok:HOk X.prog X.w H' s'.heap) (hg:oj s'.gens)
  (hch:∀ b∈ch,(b∈X.ex\/X.s₀.heap.objs.size<=b)/\b≠X.env.locals/\(∀ x c,X.env.cells.lookup x=some c->c≠b)/\∀ p∈X.pn++pins,p.1≠b):Inv X pins σ H' s':=by
 obtain ⟨h',g',d',t',o'⟩:=s';have e:o'=s.os:=ho;subst e;exact I.call (g':=g') (t':=t') (d':=d') u hok hg hch
end
abbrev XK:=ae->Option aa->Hp->Prop
abbrev St:=List (Option V)
abbrev VK:=V->Hp->Prop
abbrev TE:=St->Hp->VK->Prop
abbrev TT:=St->Hp->(Bool->Hp->Prop)->Prop
abbrev TA:=St->Hp->(List V->Hp->Prop)->Prop
structure lL where
 nx:St->Hp->Prop
 rt:VK
 bk:St->Hp->Prop:=fun _ _=>False
 ct:St->Hp->Prop:=fun _ _=>False
abbrev TS:=lL->St->Hp->Prop
def EP (X:Cx) (pins:List (aa×Obj)) (σ:St) (Q:VK) (u:ae) (s':ak):Prop:=∃ v H',Inv X pins σ H' s'/\RelV v u/\Q v H'
def TP (X:Cx) (pins:List (aa×Obj)) (σ:St) (Q:Bool->Hp->Prop) (b:Bool) (s':ak):Prop:=∃ H',Inv X pins σ H' s'/\Q b H'
def AP (X:Cx) (pins:List (aa×Obj)) (σ:St) (Q:List V->Hp->Prop) (us:List ae) (s':ak):Prop:=∃ vs H',Inv X pins σ H' s'/\cU vs us/\Q vs H'
def SP (X:Cx) (pins:List (aa×Obj)) (D:lL) (f:Flow) (s':ak):Prop:=
 match f with
 | .next=>∃ σ' H',Inv X pins σ' H' s'/\D.nx σ' H'
 | .brk=>∃ σ' H',Inv X pins σ' H' s'/\D.bk σ' H'
 | .cont=>∃ σ' H',Inv X pins σ' H' s'/\D.ct σ' H'
 | .ret u=>∃ v σ' H',Inv X pins σ' H' s'/\RelV v u/\D.rt v H'
def PE (X:Cx) (e:cM) (t:TE):Prop:=
 ∀ (pins:List (aa×Obj)) (s:ak) (σ:St) (H:Hp) (Q:VK),Inv X pins σ H s->t σ H Q->aU (aX X.prog X.w) X.A (fc e X.env) (EP X pins σ Q) X.xe s
def PT (X:Cx) (e:cM) (t:TT):Prop:=
 ∀ (pins:List (aa×Obj)) (s:ak) (σ:St) (H:Hp) (Q:Bool->Hp->Prop),Inv X pins σ H s->t σ H Q->aU (aX X.prog X.w) X.A (Eg e X.env (fc e X.env)) (TP X pins σ Q) X.xe s
def PW (X:Cx) (e:cM) (t:TT):Prop:=
 ∀ (whole:Sem ae) (pins:List (aa×Obj)) (s:ak) (σ:St) (H:Hp) (Q:Bool->Hp->Prop),Inv X pins σ H s->t σ H Q->aU (aX X.prog X.w) X.A (Eg e X.env whole) (TP X pins σ Q) X.xe s
theorem PW.pt {X:Cx} {e:cM} {t:TT} (h:PW X e t):PT X e t:=h _
def PA (X:Cx) (es:List cM) (t:TA):Prop:=
 ∀ (pos:Pos) (pins:List (aa×Obj)) (s:ak) (σ:St) (H:Hp) (Q:List V->Hp->Prop),Inv X pins σ H s->t σ H Q->aU (aX X.prog X.w) X.A (spliced (ia pos (cw es X.env))) (AP X pins σ Q) X.xe s
def PS (X:Cx) (st:cV) (t:TS):Prop:=
 ∀ (pins:List (aa×Obj)) (s:ak) (σ:St) (H:Hp) (D:lL),Inv X pins σ H s->t D σ H->aU (aX X.prog X.w) X.A (exec st X.env) (SP X pins D) X.xe s
def PSs (X:Cx) (st:List cV) (t:TS):Prop:=
 ∀ (pins:List (aa×Obj)) (s:ak) (σ:St) (H:Hp) (D:lL),Inv X pins σ H s->t D σ H->aU (aX X.prog X.w) X.A (execs st X.env) (SP X pins D) X.xe s
theorem thn {α:Type} {t:Sem α} {Q Q':α->ak->Prop} {M:HH} {A:bS} {E:ae->ak->Prop} {s:ak} (h:aU M A t Q E s) (hQ:∀ a s,Q a s->Q' a s):aU M A t Q' E s:=d7 h hQ fun _ _ x=>x
section
variable {X:Cx}
theorem bin {a b:cM} {ta tb:TE} (ha:PE X a ta) (hb:PE X b tb) {pins:List (aa×Obj)} {s:ak} {σ:St} {H:Hp} {R:V->V->Hp->Prop} (I:Inv X pins σ H s) (h:ta σ H fun x H1=>tb σ H1 fun y H2=>R x y H2)
  {α:Type} {Q:α->ak->Prop} {f:ae->ae->Sem α}
  (hf:∀ v u s2 x y H2,Inv X pins σ H2 s2->RelV x v->RelV y u->R x y H2->aU (aX X.prog X.w) X.A (f v u) Q X.xe s2) :
  aU (aX X.prog X.w) X.A (fc a X.env) (fun v s₁=>aU (aX X.prog X.w) X.A (fc b X.env) (fun u s₂=>aU (aX X.prog X.w) X.A (f v u) Q X.xe s₂) X.xe s₁) X.xe s:=by
 refine thn (ha pins s σ H _ I h) fun v s1 ⟨x,H1,I1,r1,q1⟩=>?_;refine thn (hb pins s1 σ H1 _ I1 q1) fun u s2 ⟨y,H2,I2,r2,q2⟩=>?_;exact hf v u s2 x y H2 I2 r1 r2 q2
set_option genSizeOf false
set_option genInjectivity false
inductive TVar (i:Nat) (σ:St) (H:Hp) (Q:VK):Prop where
 | mk (v:V) (h:σ[i]?=some (some v)) (q:Q v H):TVar i σ H Q
def HI (i:Nat):TE:=fun σ H Q=>TVar i σ H Q
def tC (v:V):TE:=fun _ H Q=>Q v H
theorem K2 {i:Nat} {x:Str} {pos:Pos} (hN:X.N[i]?=some x) (hv:Vis X.env.scope x) (hd:(x == ("__debug__":Str))=false:=by decide) (hcd:(x == ("__classdict__":Str))=false:=by decide):PE X (.Name x pos) (HI i):=by
 intro pins s σ H Q I h;obtain ⟨v,e,h⟩:=h;obtain ⟨m,hn,hl⟩:=I.loc;obtain ⟨u,r,l⟩:=hl i x v hN e hv;have fin:EP X pins σ Q u s:=⟨v,H,I,r,h⟩
 rcases l with ⟨hk,hm⟩ | ⟨hk,c,hc,hcell⟩
 ·exact K3 (wpAny_loadName_local I.ok.kind hk hn hm fin) hd
 ·rcases hk with hk | hk
  ·exact K3 (wpAny_loadName_cell I.ok.kind hk hc hcell fin) hd
  ·exact K3 (wpAny_loadName_free I.ok.kind hk hc hcell fin hcd) hd
theorem aw {i j pos}:PE X (.Constant (.int i) j pos) (tC (.int i)):=fun _ _ _ H _ I h=>wpAny_Constant_int ⟨.int i,H,I.tok _,⟨_,rfl⟩,h⟩
theorem oz {b j pos}:PE X (.Constant (.bool b) j pos) (tC (.bl b)):=fun _ _ _ H _ I h=>Constant_bool ⟨.bl b,H,I,rfl,h⟩
theorem uA {j pos}:PE X (.Constant .none j pos) (tC .non):=fun _ _ _ H _ I h=>Ce ⟨.non,H,I,rfl,h⟩
theorem bX {x j pos}:PE X (.Constant (.str x) j pos) (tC (.str x)):=fun _ _ _ H _ I h=>Calls.Constant_str ⟨.str x,H,I.tok _,⟨_,rfl⟩,h⟩
def Gl (X:Cx) (x:Str):Prop:=X.env.kindOf x=some .globalImplicit
theorem pC {E:ae->ak->Prop} {pins:List (aa×Obj)} {s:ak} {σ:St} {H:Hp} {x:Str} {u:ae} {pos:Pos} {Q:ae->ak->Prop} (I:Inv X pins σ H s) (hg:Gl X x) (hm:X.mg x=some u) (h:Q u s)
  (hd:(x == ("__debug__":Str))=false:=by decide):aU (aX X.prog X.w) X.A (fc (.Name x pos) X.env) Q E s:=
 vI I.ok.kind hg (Calls.loadGlobal_global (by rw [I.ok.glob]; exact I.mod.glob.keeps I.bk) hm h) hd
theorem rE {E:ae->ak->Prop} {pins:List (aa×Obj)} {s:ak} {σ:St} {H:Hp} {x:Str} {u:ae} {pos:Pos} {Q:ae->ak->Prop} (I:Inv X pins σ H s) (hg:Gl X x) (hm:X.mg x=none) (hv:eE x=some u) (h:Q u s)
  (hn:x≠"__name__":=by decide) (hd:(x == ("__debug__":Str))=false:=by decide):aU (aX X.prog X.w) X.A (fc (.Name x pos) X.env) Q E s:=by
 obtain ⟨mb,h1,h2⟩:=I.mod.blt;exact vI I.ok.kind hg (Calls.loadGlobal_builtin (by rw [I.ok.glob]; exact I.mod.glob.keeps I.bk) hm (by rw [I.ok.blt]; exact h1.keeps I.bk) ((h2 x hn).trans hv) h) hd
theorem pE {x:Str} {v:V} {u:ae} {pos:Pos} (hg:Gl X x) (hm:X.mg x=some u) (r:RelV v u) (hd:(x == ("__debug__":Str))=false:=by decide):PE X (.Name x pos) (tC v):=
 fun _ _ _ H _ I h=>pC I hg hm ⟨v,H,I,r,h⟩ hd
theorem pF {x:Str} {v:V} {u:ae} {pos:Pos} (hg:Gl X x) (hm:X.mg x=none) (hv:eE x=some u) (r:RelV v u) (hn:x≠"__name__":=by decide) (hd:(x == ("__debug__":Str))=false:=by decide):PE X (.Name x pos) (tC v):=
 fun _ _ _ H _ I h=>rE I hg hm hv ⟨v,H,I,r,h⟩ hn hd
variable {a b:cM} {ta tb:TE} {pos:Pos}
def PC (X:Cx) (op:M5) (a b:cM) (t:TE):Prop:=
 ∀ (pins:List (aa×Obj)) (s:ak) (σ:St) (H:Hp) (Q:VK),Inv X pins σ H s->t σ H Q ->
  aU (aX X.prog X.w) X.A (fc a X.env) (fun v s₁=>aU (aX X.prog X.w) X.A (fc b X.env) (fun u s₂=>aU (aX X.prog X.w) X.A (dv op v u) (EP X pins σ Q) X.xe s₂) X.xe s₁) X.xe s
theorem Eh (b:cM) {op:M5} (h:op≠.In) (h2:op≠.NotIn):jm op b=false:=by
 have e1:(op == CmpOp.In)=false:=by cases op <;> first | rfl | exact absurd rfl h
 have e2:(op == CmpOp.NotIn)=false:=by cases op <;> first | rfl | exact absurd rfl h2
 cases b <;> simp [jm,e1,e2]
def tIsN (ta:TE):TE:=fun σ H Q=>ta σ H fun x H1=>Q (.bl (decide (x=.non))) H1
def tNotN (ta:TE):TE:=fun σ H Q=>ta σ H fun x H1=>Q (.bl (!decide (x=.non))) H1
theorem RelV.none_iff {x:V} {v:ae} (r:RelV x v):(v == Value.none)=decide (x=.non):=by
 cases x with
 | non=>cases r; rfl
 | bl _=>cases r; rfl
 | int _=>obtain ⟨t,rfl⟩:=r; rfl
 | str _=>obtain ⟨t,rfl⟩:=r; rfl
 | byt _=>obtain ⟨t,rfl⟩:=r; rfl
 | flt _=>obtain ⟨t,rfl⟩:=r; rfl
 | ref _=>cases r; rfl
 | ty _=>cases r; rfl
theorem Ei {j pos'} (ha:PE X a ta):PC X .Is a (.Constant .none j pos') (tIsN ta):=by
 intro pins s σ H Q I h;refine thn (ha pins s σ H _ I h) fun v s1 ⟨x,H1,I1,r1,q1⟩=>?_;exact Ce (is_none_gen ⟨.bl _,H1,I1,by rw [r1.none_iff]; rfl,q1⟩)
theorem A1 {j pos'} (ha:PE X a ta):PC X .IsNot a (.Constant .none j pos') (tNotN ta):=by
 intro pins s σ H Q I h;refine thn (ha pins s σ H _ I h) fun v s1 ⟨x,H1,I1,r1,q1⟩=>?_;exact Ce (isnot_none_gen ⟨.bl _,H1,I1,by rw [r1.none_iff]; rfl,q1⟩)
inductive BlI (x:V) (H:Hp) (Q:Bool->Hp->Prop):Prop where
 | mk (c:Bool) (h:x=.bl c) (q:Q c H):BlI x H Q
def tB (t:TE):TT:=fun σ H Q=>t σ H fun x H1=>BlI x H1 Q
theorem qj {op:M5} {t:TE} (h:PC X op a b t) (h1:jm op b=false:=by first | exact Eh _ (by decide) (by decide) | rfl):PT X (.Compare a [op] [b] pos) (tB t):=by
 intro pins s σ H Q I hw;refine Hu (thn (h pins s σ H _ I hw) fun v s1 h1=>thn h1 fun u s2 h2=>thn h2 fun c s3 ⟨x,H1,I1,r1,q1⟩=>?_) h1;obtain ⟨d,rfl,q⟩:=q1
 cases r1;exact iH ⟨H1,I1,q⟩
theorem mB {e:cM} {t:TE} (h:PE X e t) (he:∀ whole,Eg e X.env whole=(do let v <- whole; sQ e.pos; om [v] (truthy v)):=by intro _; rfl):PT X e (tB t):=by
 intro pins s σ H Q I hw;refine isTrue_plain (thn (h pins s σ H _ I hw) fun v s1 ⟨x,H1,I1,r1,q1⟩=>?_) (he _);obtain ⟨d,rfl,q⟩:=q1
 cases r1;exact iH ⟨H1,I1,q⟩
variable {tA tB':TT} {rest:List cM}
def tAnd (t u:TT):TT:=fun σ H Q=>t σ H fun c H1=>if c=true then u σ H1 Q else Q false H1
def tOr (t u:TT):TT:=fun σ H Q=>t σ H fun c H1=>if c=true then Q true H1 else u σ H1 Q
def tNot (t:TT):TT:=fun σ H Q=>t σ H fun c H1=>Q (!c) H1
theorem mC (ha:PT X a tA):PW X (.BoolOp .And [a] pos) tA:=by
 intro wh pins s σ H Q I h;refine isTrue_and (thn (ha pins s σ H Q I h) fun c s1 e=>?_)
 cases c with
 | true=>exact isTrue_and_nil e
 | false=>exact e
theorem xn (ha:PT X a tA):PW X (.BoolOp .Or [a] pos) tA:=by
 intro wh pins s σ H Q I h;refine isTrue_or (thn (ha pins s σ H Q I h) fun c s1 e=>?_)
 cases c with
 | false=>exact isTrue_or_nil e
 | true=>exact e
theorem oA (ha:PT X a tA) (hb:PW X (.BoolOp .And (b :: rest) pos) tB'):PW X (.BoolOp .And (a :: b :: rest) pos) (tAnd tA tB'):=by
 intro wh pins s σ H Q I h;refine isTrue_and (thn (ha pins s σ H _ I h) fun c s1 ⟨H1,I1,q1⟩=>?_)
 cases c with
 | true=>exact hb wh pins s1 σ H1 Q I1 q1
 | false=>exact ⟨H1,I1,q1⟩
theorem A2 (ha:PT X a tA) (hb:PW X (.BoolOp .Or (b :: rest) pos) tB'):PW X (.BoolOp .Or (a :: b :: rest) pos) (tOr tA tB'):=by
 intro wh pins s σ H Q I h;refine isTrue_or (thn (ha pins s σ H _ I h) fun c s1 ⟨H1,I1,q1⟩=>?_)
 cases c with
 | true=>exact ⟨H1,I1,q1⟩
 | false=>exact hb wh pins s1 σ H1 Q I1 q1
theorem rF (ha:PT X a tA):PT X (.UnaryOp .Not a pos) (tNot tA):=by
 intro pins s σ H Q I h;exact isTrue_not (ha pins s σ H (fun c H1=>Q (!c) H1) I h)
def tNotV (ta:TE):TE:=fun σ H Q=>ta σ H fun x H1=>∃ c,x=.bl c/\Q (.bl (!c)) H1
theorem K4 (ha:PE X a ta):PE X (.UnaryOp .Not a pos) (tNotV ta):=by
 intro pins s σ H Q I h;refine UnaryOp_ (thn (ha pins s σ H _ I h) fun v s1 ⟨x,H1,I1,r1,q1⟩=>?_);obtain ⟨c,rfl,q1⟩:=q1
 cases r1;exact not_of (iH ⟨.bl (!c),H1,I1,rfl,q1⟩)
def tIf (t:TT) (ta tb:TE):TE:=fun σ H Q=>t σ H fun c H1=>if c=true then ta σ H1 Q else tb σ H1 Q
theorem uB {c:cM} (hc:PT X c tA) (ha:PE X a ta) (hb:PE X b tb):PE X (.IfExp c a b pos) (tIf tA ta tb):=by
 intro pins s σ H Q I h;refine wpAny_IfExp (thn (hc pins s σ H _ I h) fun d s1 ⟨H1,I1,q1⟩=>?_)
 cases d with
 | true=>exact ha pins s1 σ H1 Q I1 q1
 | false=>exact hb pins s1 σ H1 Q I1 q1
end
def SqL (K:af) (H:Hp) (a:aa) (xs:List V):Prop:=
 Rd H a (.lst xs) \/
  ∃ (o:Obj) (its:Array ae) (n:Nat),K.lookup a=some o/\o.cls=.type "list"/\o.dict=none/\o.data=.seq its n/\its.size<=aB/\cU xs its.toList
def SqT (K:af) (H:Hp) (a:aa) (xs:List V):Prop:=
 Rd H a (.tup xs) \/
  ∃ (o:Obj) (its:Array ae) (n:Nat),K.lookup a=some o/\o.cls=.type "tuple"/\o.data=.seq its n/\its.size<=aB/\cU xs its.toList
def absV:ae->Option V
 | .none=>some .non
 | .bool b=>some (.bl b)
 | .int i _=>some (.int i)
 | .str x _=>some (.str x)
 | .bytes b _=>some (.byt b)
 | .float b _=>some (.flt b)
 | .ref a=>some (.ref a)
 | .type n=>some (.ty n)
 | _=>none
theorem RelV.abs {x:V} {u:ae} (r:RelV x u):absV u=some x:=by
 cases x with
 | non=>cases r; rfl
 | bl _=>cases r; rfl
 | int _=>obtain ⟨t,rfl⟩:=r; rfl
 | str _=>obtain ⟨t,rfl⟩:=r; rfl
 | byt _=>obtain ⟨t,rfl⟩:=r; rfl
 | flt _=>obtain ⟨t,rfl⟩:=r; rfl
 | ref _=>cases r; rfl
 | ty _=>cases r; rfl
theorem RelV.inj {x y:V} {u:ae} (r:RelV x u) (q:RelV y u):x=y:=dH (r.abs.symm.trans q.abs)
theorem cU.inj:∀ {xs ys:List V} {us:List ae},cU xs us->cU ys us->xs=ys
 | _,_,_,.nil,.nil=>rfl
 | _,_,_,.cons r t,.cons r' t'=>by rw [r.inj r',cU.inj t t']
section
variable {X:Cx} {pins:List (aa×Obj)} {σ:St} {H:Hp} {s:ak} {a:aa} {xs ys:List V}
theorem SqL.of {K:af} (h:H a=some (.lst xs)):SqL K H a xs:=.inl (.inl h)
theorem SqT.of {K:af} (h:H a=some (.tup xs)):SqT K H a xs:=.inl (.inl h)
theorem Inv.list (I:Inv X pins σ H s) (h:SqL X.K H a xs):∃ its:List ae,cU xs its/\PlainL s.heap a its.toArray/\xs.length<=aB:=by
 rcases h with h | ⟨o,its,n,hk,hc,hd,hs,hz,r⟩
 ·obtain ⟨z,its,n,r,e⟩:=h.ok I.hok;exact ⟨its,r,⟨_,n,e,rfl,rfl,rfl⟩,z⟩
 ·refine ⟨its.toList,r,⟨o,n,I.kIn a o hk,hc,hd,by simpa using hs⟩,?_⟩;have e:=r.length;simp only [fH] at e;omega
theorem Inv.tuple (I:Inv X pins σ H s) (h:SqT X.K H a xs):∃ its:List ae,cU xs its/\tS s.heap a its.toArray/\xs.length<=aB:=by
 rcases h with h | ⟨o,its,n,hk,hc,hs,hz,r⟩
 ·obtain ⟨z,its,r,p⟩:=h.ok I.hok;exact ⟨its,r,p,z⟩
 ·refine ⟨its.toList,r,⟨o,I.kIn a o hk,hc,n,by simpa using hs⟩,?_⟩;have e:=r.length;simp only [fH] at e;omega
theorem Inv.list_inj (I:Inv X pins σ H s) (h:SqL X.K H a xs) (h':SqL X.K H a ys):xs=ys:=by
 obtain ⟨its,r,⟨o,n,e,_,_,d⟩,_⟩:=I.list h;obtain ⟨its',r',⟨o',n',e',_,_,d'⟩,_⟩:=I.list h';rw [e] at e'; cases e';rw [d] at d';injection d' with d1 _;have:its=its':=by simpa using congrArg K5 d1
 subst this;exact r.inj r'
theorem Inv.tuple_inj (I:Inv X pins σ H s) (h:SqT X.K H a xs) (h':SqT X.K H a ys):xs=ys:=by
 obtain ⟨its,r,⟨o,e,_,n,d⟩,_⟩:=I.tuple h;obtain ⟨its',r',⟨o',e',_,n',d'⟩,_⟩:=I.tuple h';rw [e] at e'; cases e';rw [d] at d';injection d' with d1 _;have:its=its':=by simpa using congrArg K5 d1
 subst this;exact r.inj r'
end
abbrev Cx.wish (X:Cx) (E:ae->ak->Prop):Cx:={X with xe:=E}
abbrev Cx.nox (X:Cx):Cx:=X.wish fun _ _=>False
theorem Cx.Ok.wish {X:Cx} (ok:X.Ok) (E:ae->ak->Prop):(X.wish E).Ok:=
 ⟨ok.mod,ok.kind,ok.glob,ok.blt,ok.above,ok.inj,ok.has,ok.cab,ok.hd,ok.frames,ok.stk,ok.exf,ok.bs,ok.bsz,ok.noex,ok.exfs,ok.funs,ok.frf⟩
theorem Cx.Ok.unwish {X:Cx} {E:ae->ak->Prop} (ok:(X.wish E).Ok):X.Ok:=
 ⟨ok.mod,ok.kind,ok.glob,ok.blt,ok.above,ok.inj,ok.has,ok.cab,ok.hd,ok.frames,ok.stk,ok.exf,ok.bs,ok.bsz,ok.noex,ok.exfs,ok.funs,ok.frf⟩
section
variable {X:Cx} {pins:List (aa×Obj)} {σ:St} {H:Hp} {s:ak} {E:ae->ak->Prop}
theorem Inv.wish (I:Inv X pins σ H s) (E:ae->ak->Prop):Inv (X.wish E) pins σ H s:=⟨I.ok.wish E,I.os,I.bare,I.base,I.loc,I.cell,I.free,I.freeC,I.pin,I.hok,I.len⟩
theorem Inv.unwish (I:Inv (X.wish E) pins σ H s):Inv X pins σ H s:=⟨I.ok.unwish,I.os,I.bare,I.base,I.loc,I.cell,I.free,I.freeC,I.pin,I.hok,I.len⟩
theorem SP.unwish {D:lL} {f:Flow} {s':ak} (h:SP (X.wish E) pins D f s'):SP X pins D f s':=by
 cases f with
 | next=>obtain ⟨σ',H',I,q⟩:=h; exact ⟨σ',H',I.unwish,q⟩
 | brk=>obtain ⟨σ',H',I,q⟩:=h; exact ⟨σ',H',I.unwish,q⟩
 | cont=>obtain ⟨σ',H',I,q⟩:=h; exact ⟨σ',H',I.unwish,q⟩
 | ret u=>obtain ⟨v,σ',H',I,r,q⟩:=h; exact ⟨v,σ',H',I.unwish,r,q⟩
theorem PSs.nox {st:List cV} {t:TS} (h:PSs X.nox st t):PSs X st t:=fun pins s σ H D I hw =>
 d7 (h pins s σ H D (I.wish _) hw) (fun _ _ q=>q.unwish) fun _ _ z=>cH z
end
section
variable {X:Cx} {st:cV} {rest:List cV} {t u:TS} {e:cM} {te:TE} {pos:Pos}
def oB:TS:=fun D σ H=>D.nx σ H
def K6 (t u:TS):TS:=fun D σ H=>t {D with nx:=u D} σ H
theorem bY:PSs X [] oB:=fun _ _ σ H _ I h=>lA ⟨σ,H,I,h⟩
theorem aj (h1:PS X st t) (h2:PSs X rest u):PSs X (st :: rest) (K6 t u):=by
 intro pins s σ H D I h;refine wpAny_execs_cons (thn (h1 pins s σ H {D with nx:=u D} I h) fun f s1 q=>?_)
 cases f with
 | next =>
  obtain ⟨σ',H',I',q⟩:=q;exact h2 pins s1 σ' H' D I' q
 | ret v=>exact q
 | brk=>exact q
 | cont=>exact q
theorem ay (h1:PS X st t):PSs X [st] t:=by
 intro pins s σ H D I h;refine wpAny_execs_cons (thn (h1 pins s σ H D I h) fun f s1 q=>?_)
 cases f with
 | next=>exact lA q
 | ret v=>exact q
 | brk=>exact q
 | cont=>exact q
theorem Inv.quiet {pins:List (aa×Obj)} {σ:St} {H:Hp} {s:ak} (I:Inv X pins σ H s):interactive X.env=false:=by simp [interactive,I.ok.kind]
def tDrop (te:TE):TS:=fun D σ H=>te σ H fun _ H1=>D.nx σ H1
theorem eI (he:PE X e te) (hs:sR e none pos.line X.env=pure false:=by rfl):PS X (.Expr e pos) (tDrop te):=by
 intro pins s σ H D I h;exact wpAny_Expr_any (thn (he pins s σ H _ I h) fun v s1 ⟨x,H1,I1,r1,q1⟩=>⟨σ,H1,I1,q1⟩) I.quiet hs
def tRet (te:TE):TS:=fun D σ H=>te σ H D.rt
theorem bM (he:PE X e te):PS X (.Return (some e) pos) (tRet te):=by
 intro pins s σ H D I h;exact wpAny_Return_some (thn (he pins s σ H _ I h) fun v s1 ⟨x,H1,I1,r1,q1⟩=>⟨x,σ,H1,I1,r1,q1⟩)
def tIfS (c:TT) (t u:TS):TS:=fun D σ H=>c σ H fun b H1=>if b=true then t D σ H1 else u D σ H1
theorem cS {c:cM} {a b:List cV} {tc:TT} (hc:PT X c tc) (ha:PSs X a t) (hb:PSs X b u):PS X (.If c a b pos) (tIfS tc t u):=by
 intro pins s σ H D I h;refine wpAny_If (thn (hc pins s σ H _ I h) fun d s1 ⟨H1,I1,q1⟩=>?_)
 cases d with
 | true=>exact ha pins s1 σ H1 D I1 q1
 | false=>exact hb pins s1 σ H1 D I1 q1
def K7:TS:=fun _ _ _=>False
theorem wy {sts:List cV}:PSs X sts K7:=fun _ _ _ _ _ _ h=>h.elim
end
abbrev TG:=V->St->Hp->(St->Hp->Prop)->Prop
abbrev TGs:=List V->St->Hp->(St->Hp->Prop)->Prop
def PG (X:Cx) (target:cM) (t:TG):Prop:=
 ∀ (pins:List (aa×Obj)) (s:ak) (σ:St) (H:Hp) (v:V) (u:ae) (Q:St->Hp->Prop),Inv X pins σ H s->RelV v u->t v σ H Q ->
  aU (aX X.prog X.w) X.A (xo target X.env u) (fun _ s'=>∃ σ' H',Inv X pins σ' H' s'/\Q σ' H') X.xe s
def PGs (X:Cx) (ts:List cM) (t:TGs):Prop:=
 ∀ (pins:List (aa×Obj)) (s:ak) (σ:St) (H:Hp) (vs:List V) (us:List ae) (Q:St->Hp->Prop),Inv X pins σ H s->cU vs us->t vs σ H Q ->
  aU (aX X.prog X.w) X.A (assignInOrder ((j4 ts X.env).map (·.2)) us) (fun _ s'=>∃ σ' H',Inv X pins σ' H' s'/\Q σ' H') X.xe s
abbrev K8:=V->V->V->Hp->(Hp->Prop)->Prop
def PSet (X:Cx) (t:K8):Prop:=
 ∀ (pins:List (aa×Obj)) (s:ak) (σ:St) (H:Hp) (o i v:V) (ov iv u:ae) (Q:Hp->Prop),Inv X pins σ H s->RelV o ov->RelV i iv->RelV v u->t o i v H Q ->
  aU (aX X.prog X.w) X.A (setItem ov iv u) (fun _ s'=>∃ H',Inv X pins σ H' s'/\Q H') X.xe s
section
variable {X:Cx} {pos:Pos}
def A3 (i:Nat):TG:=fun v σ H Q=>Q (σ.set i (some v)) H
theorem dQ {i:Nat} {x:Str} (hN:X.N.Nodup) (hi:X.N[i]?=some x) (hx:Loc X.env.scope x) (hf:X.fn x=true\/X.env.scope.names.lookup x=some .local:=by first | exact .inl rfl | exact .inr rfl | assumption):PG X (.Name x pos) (A3 i):=by
 intro pins s σ H v u Q I r h;exact M7 (qH I hN hi hx r (fun s' I'=>⟨_,H,I',h⟩) hf)
def gNil:TGs:=fun vs σ H Q=>vs=[]/\Q σ H
inductive JK (t:TG) (u:TGs) (vs:List V) (σ:St) (H:Hp) (Q:St->Hp->Prop):Prop where
 | mk (v:V) (r:List V) (h:vs=v :: r) (q:t v σ H fun σ' H'=>u r σ' H' Q):JK t u vs σ H Q
def gCons (t:TG) (u:TGs):TGs:=fun vs σ H Q=>JK t u vs σ H Q
theorem qI:PGs X [] gNil:=by
 intro pins s σ H vs us Q I r h;obtain ⟨e,h⟩:=h;subst e
 cases r;exact assignInOrder_nil ⟨σ,H,I,h⟩
theorem iJ {e:cM} {es:List cM} {t:TG} {u:TGs} (h1:PG X e t) (h2:PGs X es u)
  (hs:(j4 (e :: es) X.env).map (·.2)=xo e X.env :: (j4 es X.env).map (·.2):=by rfl):PGs X (e :: es) (gCons t u):=by
 intro pins s σ H vs us Q I r h;obtain ⟨v,vr,e1,h⟩:=h;subst e1
 cases r with
 | cons r rr =>
  rw [hs];refine assignInOrder_cons (thn (h1 pins s σ H _ _ _ I r h) fun _ s1 ⟨σ1,H1,I1,q1⟩=>?_);exact h2 pins s1 σ1 H1 _ _ Q I1 rr q1
inductive GTup (K:af) (n:Nat) (t:TGs) (v:V) (σ:St) (H:Hp) (Q:St->Hp->Prop):Prop where
 | mk (a:aa) (xs:List V) (h:v=.ref a) (s:SqT K H a xs) (l:xs.length=n) (q:t xs σ H Q):GTup K n t v σ H Q
def gTup (K:af) (n:Nat) (t:TGs):TG:=fun v σ H Q=>GTup K n t v σ H Q
theorem uC {es:List cM} {k:Nat} {t:TGs} {n:Nat} (hc:X.calm=true) (h:PGs X es t)
  (hn:(j4 es X.env).length=n:=by rfl) (hst:(j4 es X.env).findIdx? (·.1)=none:=by rfl):PG X (.Tuple es k pos) (gTup X.K n t):=by
 intro pins s σ H v u Q I r hw;obtain ⟨a,xs,e1,hq,hl,hw⟩:=hw;subst e1
 cases r;obtain ⟨its,rv,ht,hz⟩:=I.tuple hq;refine assign_Tuple_tuple (I.ok.hd hc) ht (by simp [hn,<- hl,rv.length]) hst fun h' hx=>?_;have I1:Inv X pins σ H {s with heap:=h'}:=I.kept (t':=s.toks) fun b o e=>hx b o (aO (aN e)) e;exact h pins _ σ H xs _ Q I1 (by simpa using rv) hw
def gSub (to ti:TE) (t:K8):TG:=fun v σ H Q=>to σ H fun o H1=>ti σ H1 fun i H2=>t o i v H2 fun H3=>Q σ H3
theorem xp {o i:cM} {to ti:TE} {t:K8} (ho:PE X o to) (hi:PE X i ti) (hs:PSet X t)
  (ha:∀ v,xo (.Subscript o i pos) X.env v=(do
   let ov <- om [v] (fc o X.env)
   let iv <- om [v,ov] (fc i X.env)
   sQ pos
   om [v,ov,iv] (setItem ov iv v)
   release [v,ov,iv] []):=by intro _; rfl):PG X (.Subscript o i pos) (gSub to ti t):=by
 intro pins s σ H v u Q I r h;rw [ha];refine aq (dO (thn (ho pins s σ H _ I h) fun ov s1 ⟨x,H1,I1,r1,q1⟩=>?_));refine aq (dO (thn (hi pins s1 σ H1 _ I1 q1) fun iv s2 ⟨y,H2,I2,r2,q2⟩=>?_));refine aq (Cf (aq (dO (thn (hs pins s2 σ H2 x y v ov iv u _ I2 r1 r2 r q2) fun _ s3 ⟨H3,I3,q3⟩=>?_))));exact wpAny_release ⟨σ,H3,I3,q3⟩
def HJ (te:TE) (g:TG):TS:=fun D σ H=>te σ H fun x H1=>g x σ H1 D.nx
theorem rG {tg e:cM} {te:TE} {g:TG} (he:PE X e te) (hg:PG X tg g) (hs:swapsWithSole [tg] e pos.line X.env=pure false:=by rfl) (hw:swappedStores [tg] e X.env=pure none:=by rfl)
  (h1:(j4 [tg] X.env).map (·.2)=[xo tg X.env]:=by rfl):PS X (.Assign [tg] e pos) (HJ te g):=by
 intro pins s σ H D I h;refine wpAny_Assign_stores (thn (he pins s σ H _ I h) fun v s1 ⟨x,H1,I1,r1,q1⟩=>?_) hs hw;rw [h1];exact thn (hg pins s1 σ H1 x v _ I1 r1 q1) fun _ s2 q=>q
theorem bC {i:Nat} {x:Str} {e:cM} {te:TE} {pos':Pos} (hN:X.N.Nodup) (hi:X.N[i]?=some x) (hx:Loc X.env.scope x) (he:PE X e te) (hs:sR e (some (.Name x pos')) pos.line X.env=pure false:=by rfl) (hf:X.fn x=true\/X.env.scope.names.lookup x=some .local:=by first | exact .inl rfl | exact .inr rfl | assumption) :
  PS X (.Assign [.Name x pos'] e pos) (HJ te (A3 i)):=by
 intro pins s σ H D I h;refine wpAny_Assign_Name (thn (he pins s σ H _ I h) fun v s1 ⟨y,H1,I1,r1,q1⟩=>?_) hs;exact qH I1 hN hi hx r1 (fun s2 I2=>⟨_,H1,I2,q1⟩) hf
end
section
variable {X:Cx} {pos:Pos}
def Ej (c:TT) (tb:TS):TS:=fun D σ H=>∃ W:Nat->St->Hp->Prop,(∃ m,W m σ H)/\∀ m σ H,W m σ H ->
 c σ H fun b H1=>if b=true then ∃ N:St->Hp->Prop,(∀ σ' H',N σ' H'->∃ m',m' < m/\W m' σ' H')/\tb {D with nx:=N,ct:=N,bk:=D.nx} σ H1 else D.nx σ H1
theorem uD {c:cM} {body:List cV} {tc:TT} {tb:TS} (hp:PassesOwn (aX X.prog X.w) X.A X.env X.xe) (hc:PT X c tc) (hb:PSs X body tb):PS X (.While c body [] pos) (Ej tc tb):=by
 intro pins s σ H D I h;obtain ⟨W,⟨m0,w0⟩,turn⟩:=h;refine wpAny_While (codeAny_whileLoop (fun n s'=>∃ σ' H',Inv X pins σ' H' s'/\W n σ' H') ?_ m0 ⟨σ,H,I,w0⟩);rintro n s1 ⟨σ1,H1,I1,w1⟩;refine iq hp (thn (hc pins s1 σ1 H1 _ I1 (turn n σ1 H1 w1)) fun b s2 ⟨H2,I2,q2⟩=>?_)
 cases b with
 | true =>
  obtain ⟨N,hN,q2⟩:=q2;rw [if_pos rfl];refine iq hp (thn (hb pins s2 σ1 H2 _ I2 q2) fun f s3 q3=>?_)
  cases f with
  | next =>
   obtain ⟨σ3,H3,I3,n3⟩:=q3;obtain ⟨m',hm,w3⟩:=hN σ3 H3 n3;exact ⟨m',hm,σ3,H3,I3,w3⟩
  | cont =>
   obtain ⟨σ3,H3,I3,n3⟩:=q3;obtain ⟨m',hm,w3⟩:=hN σ3 H3 n3;exact ⟨m',hm,σ3,H3,I3,w3⟩
  | brk=>exact q3
  | ret v=>exact q3
 | false =>
  rw [if_neg aY];exact lA ⟨σ1,H2,I2,q2⟩
end
structure It where
 go:Nat->Hp->Prop
 yld:Nat->Hp->V->Hp->Prop
 stop:Nat->Hp->Prop
def xq (X:Cx) (pins:List (aa×Obj)) (H:Hp) (b:aa):Prop:=
 H b=none/\b≠X.env.locals/\b∉X.fs/\(b∈X.ex\/X.s₀.heap.objs.size<=b)/\(∀ x c,X.env.cells.lookup x=some c->c≠b)/\∀ p∈X.pn++pins,p.1≠b
theorem Inv.fpOk {X:Cx} {pins:List (aa×Obj)} {σ:St} {H H':Hp} {s:ak} {b:aa} (I:Inv X pins σ H s) (hb:s.heap.objs.size<=b) (hn:H' b=none):xq X pins H' b:=by
 refine ⟨hn,oC (bh I.lt hb),I.nofs hb,.inr (cZ I.sz hb),fun x c e z=>?_,fun p hp z=>?_⟩
 ·obtain ⟨v,q⟩:=I.cell x c e;exact absurd (bh q.lt (by rw [z]; exact hb)) (gJ _)
 ·exact absurd (bh (aN (I.pin p hp).1) (by rw [z]; exact hb)) (gJ _)
structure Cg (P:aJ) (w:bJ) (K:af) (tg:cM) (J:It) (fp:List aa) (it:aa) (tn:Nat->cu->Prop):Prop where
 mem:it∈fp
 obj:∀ i h,tn i h->∀ b∈fp,∃ o,h.get? b=some o/\∀ v,o.data≠.cell v
 keep:∀ i h h',tn i h->(∀ b∈fp,∀ o,h.get? b=some o->h'.get? b=some o)->tn i h'
 item:∀ (X:Cx),X.prog=P->X.w=w->X.K=K->X.calm=true->∀ (i:Nat) (pins:List (aa×Obj)) (s:ak) (σ:St) (H:Hp) (E:ae->ak->Prop),Inv X pins σ H s->(∀ b∈fp,xq X pins H b)->tn i s.heap->J.go i H ->
  aU (aX P w) X.A (pyNext (.ref it)) (fun r s1=>∃ u,r=some u /\
   aU (aX P w) X.A (qE tg (.ref it) u) (fun _ s2=>∃ x H',Inv X pins σ H' s2/\RelV x u/\J.yld i H x H'/\tn (i + 1) s2.heap/\∀ b∈fp,H' b=none) E s1) E s
 done:∀ (X:Cx),X.prog=P->X.w=w->X.K=K->X.calm=true->∀ (i:Nat) (pins:List (aa×Obj)) (s:ak) (σ:St) (H:Hp) (E:ae->ak->Prop),Inv X pins σ H s->(∀ b∈fp,xq X pins H b)->tn i s.heap->J.stop i H ->
  aU (aX P w) X.A (pyNext (.ref it)) (fun r s1=>r=none/\Inv X pins σ H s1) E s
 self:∀ (A:bS) (i:Nat) (s:ak) (Q:ae->ak->Prop) (E:ae->ak->Prop),tn i s.heap->Q (.ref it) s->aU (aX P w) A (pyIter (.ref it)) Q E s
abbrev TI:=St->Hp->(It->Hp->Prop)->Prop
def PIE (X:Cx) (pins:List (aa×Obj)) (σ:St) (tg:cM) (R:It->Hp->Prop) (itv:ae) (s2:ak):Prop:=
 ∃ (it:aa) (fp:List aa) (tn:Nat->cu->Prop) (J:It) (H':Hp),itv=.ref it/\Inv X pins σ H' s2/\Cg X.prog X.w X.K tg J fp it tn/\tn 0 s2.heap/\(∀ b∈fp,xq X pins H' b)/\R J H'
def PI (X:Cx) (tg iter:cM) (wi:TI):Prop:=
 ∀ (pins:List (aa×Obj)) (s:ak) (σ:St) (H:Hp) (R:It->Hp->Prop),Inv X pins σ H s->wi σ H R ->
  aU (aX X.prog X.w) X.A (fc iter X.env) (fun v s1=>aU (aX X.prog X.w) X.A (pyIter v) (PIE X pins σ tg R) X.xe s1) X.xe s
theorem Ek {M:HH} {A:bS} {E:ae->ak->Prop} {s:ak} {tg:cM} {it:aa} {u:ae} {o:Obj} {n:String} {vs:Array ae} {Q:Unit->ak->Prop} (ho:s.heap.get? it=some o) (hc:o.cls=.type n) (hd:o.data=.fields vs)
  (hn:["enumerate","zip","dict_itemiterator","dict_reverseitemiterator","odict_iterator","itertools.zip_longest","itertools.pairwise"].contains n=false) (hQ:Q () s):aU M A (qE tg (.ref it) u) Q E s:=by
 unfold qE
 cases tg <;> first
  | exact aV hQ
  |(cases u <;> first
    | exact aV hQ
    |(refine aq (wpAny_load ho ?_)
      rw [hc,hd];show aU M A (if (["enumerate","zip","dict_itemiterator","dict_reverseitemiterator","odict_iterator","itertools.zip_longest","itertools.pairwise"].contains n && vs[0]? == some (rH _))=true then _ else _) Q E s;rw [if_neg (by intro h; rw [hn,Bool.false_and] at h; cases h)];exact aV hQ))
def Itl (K:af) (a:aa):It:=
 ⟨fun i H=>∃ xs x,SqL K H a xs/\xs[i]?=some x,fun i H x H'=>H'=H/\∀ xs,SqL K H a xs->xs[i]?=some x,fun i H=>∃ xs,SqL K H a xs/\xs.length<=i⟩
def Itt (K:af) (a:aa):It:=
 ⟨fun i H=>∃ xs x,SqT K H a xs/\xs[i]?=some x,fun i H x H'=>H'=H/\∀ xs,SqT K H a xs->xs[i]?=some x,fun i H=>∃ xs,SqT K H a xs/\xs.length<=i⟩
def Itr (lo:Int) (n:Nat):It:=⟨fun i _=>i < n,fun i H x H'=>H'=H/\x=.int (lo + i),fun i _=>n<=i⟩
theorem Cj {P:aJ} {w:bJ} {K:af} {tg:cM} (a it:aa):Cg P w K tg (Itl K a) [it] it (fun i h=>h.IsListIter it a i) where
 mem:=by simp
 obj:=fun i h st b hb=>by
  have e:b=it:=by simpa using hb
  subst e;obtain ⟨o,e,c,d⟩:=st;exact ⟨o,e,fun v z=>by rw [d] at z; cases z⟩
 keep:=fun i h h' st k=>st.at fun o e=>k it (by simp) o e
 item:=by
  intro X hP hw hK hc i pins s σ H E I hf st hg;subst hP hw hK;obtain ⟨xs,x,hq,hx⟩:=hg;obtain ⟨its,rv,p,hz⟩:=I.list hq;obtain ⟨u,hu,ru⟩:=rv.get hx;obtain ⟨f0,f1,f2,f3,f4,f5⟩:=hf it (by simp);refine El st p.isList (x:=u) (by simpa using hu) fun h' st' sb=>?_;have I1:Inv X pins σ H {s with heap:=h'}:=I.turned (t':=s.toks) (fun b o hb e=>(sb.2 b hb).trans e) f0 f1 f3 f4 f5;obtain ⟨o,e,c,d⟩:=id st';exact ⟨u,rfl,Ek (s:={s with heap:=h'}) e c d (by decide) ⟨x,H,I1,ru,⟨rfl,fun ys hy=>by rw [I.list_inj hy hq]; exact hx⟩,st',fun b hb=>(hf b hb).1⟩⟩
 done:=by
  intro X hP hw hK hc i pins s σ H E I hf st hg;subst hP hw hK;obtain ⟨xs,hq,hx⟩:=hg;obtain ⟨its,rv,p,hz⟩:=I.list hq;obtain ⟨f0,f1,f2,f3,f4,f5⟩:=hf it (by simp);have hl:=rv.length;exact Hv (I.ok.hd hc) st p.isList (by simp; omega) fun h' eb=>⟨rfl,I.turned (t':=s.toks) (fun b o hb e=>eb b o hb e) f0 f1 f3 f4 f5⟩
 self:=fun _ _ _ _ _ st h=>wpAny_pyIter_listiter st h
theorem zY {P:aJ} {w:bJ} {K:af} {tg:cM} (a it:aa):Cg P w K tg (Itt K a) [it] it (fun i h=>h.IsTupleIter it a i) where
 mem:=by simp
 obj:=fun i h st b hb=>by
  have e:b=it:=by simpa using hb
  subst e;obtain ⟨o,e,c,d⟩:=st;exact ⟨o,e,fun v z=>by rw [d] at z; cases z⟩
 keep:=fun i h h' st k=>st.at fun o e=>k it (by simp) o e
 item:=by
  intro X hP hw hK hc i pins s σ H E I hf st hg;subst hP hw hK;obtain ⟨xs,x,hq,hx⟩:=hg;obtain ⟨its,rv,p,hz⟩:=I.tuple hq;obtain ⟨u,hu,ru⟩:=rv.get hx;obtain ⟨f0,f1,f2,f3,f4,f5⟩:=hf it (by simp);refine wpAny_pyNext_tuple_item st (show s.heap.IsTuple a its.toArray from p) (x:=u) (by simpa using hu) fun h' st' sb=>?_;have I1:Inv X pins σ H {s with heap:=h'}:=I.turned (t':=s.toks) (fun b o hb e=>(sb.2 b hb).trans e) f0 f1 f3 f4 f5;obtain ⟨o,e,c,d⟩:=id st';exact ⟨u,rfl,Ek (s:={s with heap:=h'}) e c d (by decide) ⟨x,H,I1,ru,⟨rfl,fun ys hy=>by rw [I.tuple_inj hy hq]; exact hx⟩,st',fun b hb=>(hf b hb).1⟩⟩
 done:=by
  intro X hP hw hK hc i pins s σ H E I hf st hg;subst hP hw hK;obtain ⟨xs,hq,hx⟩:=hg;obtain ⟨its,rv,p,hz⟩:=I.tuple hq;obtain ⟨f0,f1,f2,f3,f4,f5⟩:=hf it (by simp);have hl:=rv.length;exact wpAny_pyNext_tuple_end (I.ok.hd hc) st (show s.heap.IsTuple a its.toArray from p) (by simp; omega) fun h' eb=>⟨rfl,I.turned (t':=s.toks) (fun b o hb e=>eb b o hb e) f0 f1 f3 f4 f5⟩
 self:=fun _ _ _ _ _ st h=>wpAny_pyIter_tupleiter st h
theorem zZ {P:aJ} {w:bJ} {K:af} {tg:cM} (it:aa) (lo:Int) (n:Nat):Cg P w K tg (Itr lo n) [it] it (fun i h=>IsRangeIter h it (lo + (i:Nat) * 1) ((n:Int) - (i:Nat)) 1) where
 mem:=by simp
 obj:=fun i h st b hb=>by
  have e:b=it:=by simpa using hb
  subst e;exact ⟨_,st,fun v z=>by
   have z':Data.fields _=Data.cell v:=z
   cases z'⟩
 keep:=fun i h h' st k=>k it (by simp) _ st
 item:=by
  intro X hP hw hK hc i pins s σ H E I hf st hg;subst hP hw hK;obtain ⟨f0,f1,f2,f3,f4,f5⟩:=hf it (by simp);have W:=Walks.range (prog:=X.prog) (w:=X.w) (I.ok.hd hc) it lo 1 n;refine W.item i s _ _ hg st fun v h' tk hv st' kk=>?_;obtain ⟨t,rfl⟩:=hv;have I1:Inv X pins σ H {s with heap:=h',toks:=tk}:=I.turned (fun b o hb e=>kk b o (by simpa using hb) e) f0 f1 f3 f4 f5;refine ⟨_,rfl,Ek (s:={s with heap:=h',toks:=tk}) (n:="range_iterator") st' rfl rfl (by decide) ⟨.int (lo + i),H,I1,⟨t,?_⟩,⟨rfl,rfl⟩,st',fun b hb=>(hf b hb).1⟩⟩;rw [Int.mul_one]
 done:=by
  intro X hP hw hK hc i pins s σ H E I hf st hg;subst hP hw hK;obtain ⟨f0,f1,f2,f3,f4,f5⟩:=hf it (by simp);exact wpAny_pyNext_range_end (I.ok.hd hc) st (by have:n<=i:=hg; omega) fun h' eb=>⟨rfl,I.turned (t':=s.toks) (fun b o hb e=>eb b o hb e) f0 f1 f3 f4 f5⟩
 self:=fun _ _ _ _ _ st h=>wpAny_pyIter_rangeiter st h
section
variable {X:Cx} {tg:cM}
def JL (K:af) (tl:TE):TI:=fun σ H R=>tl σ H fun x H1=>∃ a,x=.ref a/\(∃ xs,SqL K H1 a xs)/\R (Itl K a) H1
def iTup (K:af) (tl:TE):TI:=fun σ H R=>tl σ H fun x H1=>∃ a,x=.ref a/\(∃ xs,SqT K H1 a xs)/\R (Itt K a) H1
theorem i0 {l:cM} {tl:TE} (hl:PE X l tl):PI X tg l (JL X.K tl):=by
 intro pins s σ H R I h;refine thn (hl pins s σ H _ I h) fun v s1 ⟨x,H1,I1,r1,q1⟩=>?_;obtain ⟨a,e,⟨xs,hq⟩,q⟩:=q1;subst e
 cases r1;obtain ⟨its,rv,p,hz⟩:=I1.list hq;refine M8 p.isList ?_;refine ⟨s1.heap.objs.size,[s1.heap.objs.size],_,_,H1,rfl,I1.kept (t':=s1.toks) fun b o e=>aI _ e,Cj a _,⟨_,cj _ rfl,rfl,rfl⟩,fun b hb=>?_,q⟩;have e:b=s1.heap.objs.size:=by simpa using hb
 subst e;exact I1.fpOk (aC _) (I1.hok.fresh (aC _))
theorem K9 {l:cM} {tl:TE} (hl:PE X l tl):PI X tg l (iTup X.K tl):=by
 intro pins s σ H R I h;refine thn (hl pins s σ H _ I h) fun v s1 ⟨x,H1,I1,r1,q1⟩=>?_;obtain ⟨a,e,⟨xs,hq⟩,q⟩:=q1;subst e
 cases r1;obtain ⟨its,rv,p,hz⟩:=I1.tuple hq;refine wpAny_pyIter_tuple (show s1.heap.IsTuple a its.toArray from p) ?_;refine ⟨s1.heap.objs.size,[s1.heap.objs.size],_,_,H1,rfl,I1.kept (t':=s1.toks) fun b o e=>aI _ e,zY a _,⟨_,cj _ rfl,rfl,rfl⟩,fun b hb=>?_,q⟩;have e:b=s1.heap.objs.size:=by simpa using hb
 subst e;exact I1.fpOk (aC _) (I1.hok.fresh (aC _))
theorem Em {pins:List (aa×Obj)} {σ:St} {H:Hp} {s:ak} {R:It->Hp->Prop} {E:ae->ak->Prop} {lo hi:Int} {t u v:Tok} {tk:Nat} (I:Inv X pins σ H s) (h1:-(2 ^ 62)<=lo) (h2:lo < 2 ^ 62) (h3:-(2 ^ 62)<=hi) (h4:hi < 2 ^ 62)
  (q:R (Itr lo (hi - lo).toNat) H):aU (aX X.prog X.w) X.A (pyIter (.ref s.heap.objs.size)) (PIE X pins σ tg R) E {s with heap:=s.heap.push {cls:=.type "range",data:=.fields #[.int lo t,.int hi u,.int 1 v]},toks:=tk}:=by
 refine wpAny_pyIter_range (IsRange.new ..) (small_one h1 h2 h3 h4) ?_;have I1:Inv X pins σ H {s with heap:=s.heap.push {cls:=.type "range",data:=.fields #[.int lo t,.int hi u,.int 1 v]},toks:=tk}:=I.kept fun b o e=>aI _ e;refine ⟨(s.heap.push {cls:=.type "range",data:=.fields #[.int lo t,.int hi u,.int 1 v]}).objs.size,[(s.heap.push {cls:=.type "range",data:=.fields #[.int lo t,.int hi u,.int 1 v]}).objs.size],_,_,H,rfl,
  I1.kept (t':=tk) fun b o e=>aI _ e,zZ _ lo (hi - lo).toNat,?_,fun b hb=>?_,q⟩
 ·have e1:lo + ((0:Nat):Int) * 1=lo:=by simp
  have e2:(((hi - lo).toNat:Nat):Int) - ((0:Nat):Int)=Builtin.Range.rangeSize lo hi 1:=by rw [rangeSize_one]; split <;> omega
  show IsRangeIter _ _ (lo + ((0:Nat):Int) * 1) ((((hi - lo).toNat:Nat):Int) - ((0:Nat):Int)) 1;rw [e1,e2];exact cj _ rfl
 ·have e:b=(s.heap.push {cls:=.type "range",data:=.fields #[.int lo t,.int hi u,.int 1 v]}).objs.size:=by simpa using hb
  subst e;exact I1.fpOk (aC _) (I1.hok.fresh (aC _))
def En (ta:TA):TI:=fun σ H R=>ta σ H fun vs H1=>∃ j:Int,vs=[.int j]/\-(2 ^ 62)<=j/\j < 2 ^ 62/\R (Itr 0 j.toNat) H1
theorem iU {a:cM} {ta:TA} {p pos:Pos} (hg:Gl X "range") (hm:X.mg "range"=none) (ha:PA X [a] ta) (hs:cw [a] X.env=[(false,fc a X.env)]:=by rfl):PI X tg (.Call (.Name "range" p) [a] [] pos) (En ta):=by
 intro pins s σ H R I h;refine Call_ (rE I hg hm boot_range (jz (thn (ha pos pins s σ H _ I h) fun us s1 ⟨vs,H1,I1,r1,q1⟩=>?_) hs rfl));obtain ⟨j,e,q1,q2,q⟩:=q1;subst e
 cases r1 with
 | cons r rr =>
  cases rr;obtain ⟨t,rfl⟩:=r;exact call_range_1 (Em I1 (by omega) (by omega) q1 q2 (by simpa using q))
def tFor (wi:TI) (g:TG) (tb:TS):TS:=fun D σ H=>wi σ H fun J H1=>∃ W:Nat->Nat->St->Hp->Prop,(∃ m,W 0 m σ H1)/\∀ i m σ H,W i m σ H ->
 (J.stop i H/\D.nx σ H)\/(J.go i H/\∃ N:St->Hp->Prop,(∀ σ' H',N σ' H'->∃ m',m' < m/\W (i + 1) m' σ' H')/\∀ x H',J.yld i H x H'->g x σ H' fun σ2 H2=>tb {D with nx:=N,ct:=N,bk:=D.nx} σ2 H2)
def rJ (fp:List aa) (h:cu):List (aa×Obj):=fp.filterMap fun b=>(h.get? b).map fun o=>(b,o)
theorem mH {fp:List aa} {h:cu} {b:aa} {o:Obj} (hb:b∈fp) (e:h.get? b=some o):(b,o)∈rJ fp h:=rA.mpr ⟨b,hb,by rw [e]; rfl⟩
theorem Ck {fp:List aa} {h:cu} {p:aa×Obj} (hp:p∈rJ fp h):p.1∈fp/\h.get? p.1=some p.2:=by
 obtain ⟨b,hb,e⟩:=rA.mp hp
 cases q:h.get? b with
 | none=>rw [q] at e; cases e
 | some o =>
  rw [q] at e;have e':(b,o)=p:=dH e;subst e';exact ⟨hb,q⟩
theorem Inv.pinned {pins:List (aa×Obj)} {σ:St} {H:Hp} {s:ak} {fp:List aa} (I:Inv X pins σ H s) (hf:∀ b∈fp,xq X pins H b) (ho:∀ b∈fp,∃ o,s.heap.get? b=some o/\∀ v,o.data≠.cell v):Inv X (pins++rJ fp s.heap) σ H s:=
 I.pins_of fun p hp=>(cq.mp hp).elim (fun z=>I.pin p (bD _ z)) fun z=>by
  obtain ⟨hb,e⟩:=Ck z;obtain ⟨f0,f1,f2,_⟩:=hf p.1 hb;obtain ⟨o,e',d⟩:=ho p.1 hb;rw [e] at e'; cases e';exact ⟨e,f0,f1,f2,d⟩
theorem Inv.unpinned {pins pl:List (aa×Obj)} {σ:St} {H:Hp} {s:ak} (I:Inv X (pins++pl) σ H s):Inv X pins σ H s:=I.pins_of fun p hp=>I.pin p (bD _ (gE _ hp))
theorem i5 {iter:cM} {body:List cV} {wi:TI} {g:TG} {tb:TS} {pos:Pos} (hp:PassesOwn (aX X.prog X.w) X.A X.env X.xe) (hc:X.calm=true) (hi:PI X tg iter wi) (hg:PG X tg g) (hb:PSs X body tb)
  (hs:∀ x,oo iter X.env x=pure x:=by intro _; rfl):PS X (.For tg iter body [] pos) (tFor wi g tb):=by
 intro pins s σ H D I h;refine wpAny_For (thn (hi pins s σ H _ I h) fun v s1 h1=>thn h1 fun itv s2 h2=>?_) hs;obtain ⟨it,fp,tn,J,H2,e,I2,T,st2,f2,W,⟨m0,w0⟩,turn⟩:=h2;subst e
 -- what stays true of the iterator's objects through the loop
 have stat:∀ {H':Hp},(∀ b∈fp,H' b=none)->∀ b∈fp,xq X pins H' b:=fun hn b hb=>⟨hn b hb,(f2 b hb).2⟩;refine codeAny_forLoop_any (fun n s'=>∃ i σ' H',Inv X pins σ' H' s'/\tn i s'.heap/\(∀ b∈fp,H' b=none)/\W i n σ' H') ?_ m0 ⟨0,σ,H2,I2,st2,fun b hb=>(f2 b hb).1,w0⟩;rintro n s3 ⟨i,σ3,H3,I3,st3,fr3,w3⟩
 rcases turn i n σ3 H3 w3 with ⟨stop,qn⟩ | ⟨go,N,hN,step⟩
 ·refine iq hp (thn (T.done X rfl rfl rfl hc i pins s3 σ3 H3 X.xe I3 (stat fr3) st3 stop) fun r s4 ⟨hr,I4⟩=>?_);subst hr;exact lA ⟨σ3,H3,I4,qn⟩
 ·refine iq hp (thn (T.item X rfl rfl rfl hc i pins s3 σ3 H3 X.xe I3 (stat fr3) st3 go) fun r s4 ⟨u,hr,h4⟩=>?_);subst hr;refine iq hp (thn h4 fun _ s5 ⟨x,H5,I5,r5,y5,st5,fr5⟩=>?_);have I5':=I5.pinned (stat fr5) (T.obj _ _ st5);refine iq hp (thn (hg _ s5 σ3 H5 x u _ I5' r5 (step x H5 y5)) fun _ s6 ⟨σ6,H6,I6,q6⟩=>?_);refine iq hp (thn (hb _ s6 σ6 H6 _ I6 q6) fun f s7 q7=>?_);have again:∀ {σ7:St} {H7:Hp},Inv X (pins++rJ fp s5.heap) σ7 H7 s7->N σ7 H7->∃ m,m < n/\∃ i σ' H',Inv X pins σ' H' s7/\tn i s7.heap/\(∀ b∈fp,H' b=none)/\W i m σ' H':=fun {σ7 H7} I7 n7=>by
   obtain ⟨m',hm,w7⟩:=hN σ7 H7 n7;refine ⟨m',hm,i + 1,σ7,H7,I7.unpinned,T.keep _ _ _ st5 fun b hb o e=>(I7.pin (b,o) (bD _ (bD _ (mH hb e)))).1,fun b hb=>?_,w7⟩;obtain ⟨o,e,d⟩:=T.obj _ _ st5 b hb;exact (I7.pin (b,o) (bD _ (bD _ (mH hb e)))).2.1
  cases f with
  | next=>obtain ⟨σ7,H7,I7,n7⟩:=q7; exact again I7 n7
  | cont=>obtain ⟨σ7,H7,I7,n7⟩:=q7; exact again I7 n7
  | brk=>obtain ⟨σ7,H7,I7,q7⟩:=q7; exact ⟨σ7,H7,I7.unpinned,q7⟩
  | ret v=>obtain ⟨x7,σ7,H7,I7,r7,q7⟩:=q7; exact ⟨x7,σ7,H7,I7.unpinned,r7,q7⟩
end
theorem jG {K:af} {a:aa} {xs:List V} {g:TG} {tb:TS} {D:lL} {σ:St} {H:Hp} (Pv:Nat->St->Hp->Prop) (h0:Pv 0 σ H) (hl:∀ i σ H,i<=xs.length->Pv i σ H->SqL K H a xs)
  (hs:∀ i x σ H,xs[i]?=some x->Pv i σ H->g x σ H fun σ2 H2=>tb {D with nx:=Pv (i + 1),ct:=Pv (i + 1),bk:=D.nx} σ2 H2) (hd:∀ σ H,Pv xs.length σ H->D.nx σ H) :
  ∃ W:Nat->Nat->St->Hp->Prop,(∃ m,W 0 m σ H)/\∀ i m σ H,W i m σ H ->
   ((Itl K a).stop i H/\D.nx σ H)\/((Itl K a).go i H/\∃ N:St->Hp->Prop,(∀ σ' H',N σ' H'->∃ m',m' < m/\W (i + 1) m' σ' H')/\∀ x H',(Itl K a).yld i H x H'->g x σ H' fun σ2 H2=>tb {D with nx:=N,ct:=N,bk:=D.nx} σ2 H2):=by
 refine ⟨fun i m σ H=>m=xs.length - i/\i<=xs.length/\Pv i σ H,⟨xs.length,by simp,bT _,h0⟩,?_⟩;rintro i m σ H ⟨rfl,hi,p⟩;have q:=hl i σ H hi p
 by_cases hlt:i < xs.length
 ·refine .inr ⟨⟨xs,xs[i],q,by simp [hlt]⟩,Pv (i + 1),fun σ' H' p'=>⟨xs.length - (i + 1),by omega,rfl,hlt,p'⟩,fun x H' y=>?_⟩;obtain ⟨e,y⟩:=y;subst e;exact hs i x σ _ (y xs q) p
 ·have e:i=xs.length:=by omega
  subst e;exact .inl ⟨⟨xs,q,aC _⟩,hd σ H p⟩
theorem pG {lo:Int} {n:Nat} {g:TG} {tb:TS} {D:lL} {σ:St} {H:Hp} (Pv:Nat->St->Hp->Prop) (h0:Pv 0 σ H)
  (hs:∀ i σ H,i < n->Pv i σ H->g (.int (lo + i)) σ H fun σ2 H2=>tb {D with nx:=Pv (i + 1),ct:=Pv (i + 1),bk:=D.nx} σ2 H2) (hd:∀ σ H,Pv n σ H->D.nx σ H) :
  ∃ W:Nat->Nat->St->Hp->Prop,(∃ m,W 0 m σ H)/\∀ i m σ H,W i m σ H ->
   ((Itr lo n).stop i H/\D.nx σ H)\/((Itr lo n).go i H/\∃ N:St->Hp->Prop,(∀ σ' H',N σ' H'->∃ m',m' < m/\W (i + 1) m' σ' H')/\∀ x H',(Itr lo n).yld i H x H'->g x σ H' fun σ2 H2=>tb {D with nx:=N,ct:=N,bk:=D.nx} σ2 H2):=by
 refine ⟨fun i m σ H=>m=n - i/\i<=n/\Pv i σ H,⟨n,by simp,bT _,h0⟩,?_⟩;rintro i m σ H ⟨rfl,hi,p⟩
 by_cases hlt:i < n
 ·refine .inr ⟨hlt,Pv (i + 1),fun σ' H' p'=>⟨n - (i + 1),by omega,rfl,hlt,p'⟩,fun x H' y=>?_⟩;obtain ⟨e,y⟩:=y;subst e y;exact hs i σ _ hlt p
 ·have e:i=n:=by omega
  subst e;exact .inl ⟨aC _,hd σ H p⟩
theorem yM {c:TT} {tb:TS} {D:lL} {σ:St} {H:Hp} (Pv:St->Hp->Prop) (μ:St->Hp->Nat) (h0:Pv σ H)
  (hs:∀ σ H,Pv σ H->c σ H fun b H1=>if b=true then tb {D with nx:=fun σ' H'=>Pv σ' H'/\μ σ' H' < μ σ H,ct:=fun σ' H'=>Pv σ' H'/\μ σ' H' < μ σ H,bk:=D.nx} σ H1 else D.nx σ H1)
  (mono:∀ σ H Q Q',(∀ b H1,Q b H1->Q' b H1)->c σ H Q->c σ H Q'):Ej c tb D σ H:=by
 refine ⟨fun m σ H=>m=μ σ H/\Pv σ H,⟨_,rfl,h0⟩,?_⟩;rintro m σ H ⟨rfl,p⟩;refine mono σ H _ _ (fun b H1 q=>?_) (hs σ H p)
 cases b with
 | true=>exact ⟨_,fun σ' H' ⟨p',l⟩=>⟨_,l,rfl,p'⟩,q⟩
 | false=>exact q
abbrev R2:=V->V->Hp->VK->Prop
def OpR (X:Cx) (f:ae->ae->Sem ae) (r:R2):Prop:=
 ∀ (pins:List (aa×Obj)) (s:ak) (σ:St) (H:Hp) (x y:V) (v u:ae) (Q:VK),Inv X pins σ H s->RelV x v->RelV y u->r x y H Q ->
  aU (aX X.prog X.w) X.A (f v u) (EP X pins σ Q) X.xe s
def UnR (X:Cx) (f:ae->Sem ae) (r:V->Hp->VK->Prop):Prop:=
 ∀ (pins:List (aa×Obj)) (s:ak) (σ:St) (H:Hp) (x:V) (v:ae) (Q:VK),Inv X pins σ H s->RelV x v->r x H Q ->
  aU (aX X.prog X.w) X.A (f v) (EP X pins σ Q) X.xe s
def jH (X:Cx) (f:ae) (r:List V->Hp->VK->Prop):Prop:=
 ∀ (pins:List (aa×Obj)) (s:ak) (σ:St) (H:Hp) (xs:List V) (us:List ae) (Q:VK),Inv X pins σ H s->cU xs us->r xs H Q ->
  aU (aX X.prog X.w) X.A (vJ f us) (EP X pins σ Q) X.xe s
def TruR (X:Cx) (r:V->Hp->(Bool->Hp->Prop)->Prop):Prop:=
 ∀ (pins:List (aa×Obj)) (s:ak) (σ:St) (H:Hp) (x:V) (v:ae) (Q:Bool->Hp->Prop),Inv X pins σ H s->RelV x v->r x H Q ->
  aU (aX X.prog X.w) X.A (truthy v) (TP X pins σ Q) X.xe s
def tOp (r:R2) (ta tb:TE):TE:=fun σ H Q=>ta σ H fun x H1=>tb σ H1 fun y H2=>r x y H2 Q
def tUn (r:V->Hp->VK->Prop) (ta:TE):TE:=fun σ H Q=>ta σ H fun x H1=>r x H1 Q
inductive RI (C:Int->Int->Prop) (g:Int->Int->V) (x y:V) (H:Hp) (Q:VK):Prop where
 | mk (i j:Int) (hx:x=.int i) (hy:y=.int j) (c:C i j) (q:Q (g i j) H):RI C g x y H Q
def rI (C:Int->Int->Prop) (g:Int->Int->V):R2:=fun x y H Q=>RI C g x y H Q
inductive RI0 (g:Int->Int->V) (x y:V) (H:Hp) (Q:VK):Prop where
 | mk (i j:Int) (hx:x=.int i) (hy:y=.int j) (q:Q (g i j) H):RI0 g x y H Q
def rI0 (g:Int->Int->V):R2:=fun x y H Q=>RI0 g x y H Q
inductive RU (g:Int->V) (x:V) (H:Hp) (Q:VK):Prop where
 | mk (i:Int) (hx:x=.int i) (q:Q (g i) H):RU g x H Q
def rU (g:Int->V):V->Hp->VK->Prop:=fun x H Q=>RU g x H Q
section
variable {X:Cx} {a b c:cM} {ta tb tc:TE} {pos:Pos}
theorem La (ha:PE X a ta) (hb:PE X b tb) {pins:List (aa×Obj)} {s:ak} {σ:St} {H:Hp} {R:V->V->Hp->Prop} (I:Inv X pins σ H s)
  (h:ta σ H fun x H1=>tb σ H1 fun y H2=>R x y H2) {Q:ae->ak->Prop} {f:ae->ae->Sem ae}
  (hf:∀ v u s2 x y H2,Inv X pins σ H2 s2->RelV x v->RelV y u->R x y H2->aU (aX X.prog X.w) X.A (f v u) Q X.xe s2) :
  aU (aX X.prog X.w) X.A (fc a X.env) (fun v s₁=>aU (aX X.prog X.w) X.A (fc b X.env) (fun u s₂=>aU (aX X.prog X.w) X.A (f v u) Q X.xe s₂) X.xe s₁) X.xe s:=by
 refine thn (ha pins s σ H _ I h) fun v s1 ⟨x,H1,I1,r1,q1⟩=>?_;refine thn (hb pins s1 σ H1 _ I1 q1) fun u s2 ⟨y,H2,I2,r2,q2⟩=>?_;exact hf v u s2 x y H2 I2 r1 r2 q2
theorem cT {op:HK} {r:R2} (ho:OpR X (g9 op) r) (ha:PE X a ta) (hb:PE X b tb):PE X (.BinOp a op b pos) (tOp r ta tb):=by
 intro pins s σ H Q I h;exact wpAny_BinOp (La ha hb I h fun v u s2 x y H2 I2 rx ry q=>ho pins s2 σ H2 x y v u Q I2 rx ry q)
theorem JM {op:UnaryOp} {r:V->Hp->VK->Prop} (ho:UnR X (unaryOp op) r) (ha:PE X a ta):PE X (.UnaryOp op a pos) (tUn r ta):=by
 intro pins s σ H Q I h;exact UnaryOp_ (thn (ha pins s σ H _ I h) fun v s1 ⟨x,H1,I1,r1,q1⟩=>ho pins s1 σ H1 x v Q I1 r1 q1)
theorem opI {f:ae->ae->Sem ae} {C:Int->Int->Prop} {g:Int->Int->Int}
  (HL:∀ (i j:Int) (t u:Tok) (s:ak) (Q:ae->ak->Prop) (E:ae->ak->Prop),C i j->Q (.int (g i j) s.toks) {s with toks:=s.toks + 1}->aU (aX X.prog X.w) X.A (f (.int i t) (.int j u)) Q E s) :
  OpR X f (rI C fun i j=>.int (g i j)):=by
 intro pins s σ H x y v u Q I rx ry h;obtain ⟨i,j,rfl,rfl,hc,q⟩:=h;obtain ⟨t,rfl⟩:=rx;obtain ⟨t',rfl⟩:=ry;exact HL i j t t' s _ _ hc ⟨.int (g i j),H,I.tok _,⟨_,rfl⟩,q⟩
theorem opI0 {f:ae->ae->Sem ae} {g:Int->Int->Int}
  (HL:∀ (i j:Int) (t u:Tok) (s:ak) (Q:ae->ak->Prop) (E:ae->ak->Prop),Q (.int (g i j) s.toks) {s with toks:=s.toks + 1}->aU (aX X.prog X.w) X.A (f (.int i t) (.int j u)) Q E s) :
  OpR X f (rI0 fun i j=>.int (g i j)):=by
 intro pins s σ H x y v u Q I rx ry h;obtain ⟨i,j,rfl,rfl,q⟩:=h;obtain ⟨t,rfl⟩:=rx;obtain ⟨t',rfl⟩:=ry;exact HL i j t t' s _ _ ⟨.int (g i j),H,I.tok _,⟨_,rfl⟩,q⟩
theorem HM {f:ae->ae->Sem ae} {g:Int->Int->Bool}
  (HL:∀ (i j:Int) (t u:Tok) (s:ak) (Q:ae->ak->Prop) (E:ae->ak->Prop),Q (.bool (g i j)) s->aU (aX X.prog X.w) X.A (f (.int i t) (.int j u)) Q E s) :
  OpR X f (rI0 fun i j=>.bl (g i j)):=by
 intro pins s σ H x y v u Q I rx ry h;obtain ⟨i,j,rfl,rfl,q⟩:=h;obtain ⟨t,rfl⟩:=rx;obtain ⟨t',rfl⟩:=ry;exact HL i j t t' s _ _ ⟨.bl (g i j),H,I,rfl,q⟩
def CDiv (i j:Int):Prop:=0 < j/\j < 1073741824
def Cm (i j:Int):Prop:=0<=j/\j<=1000000/\i.natAbs < 2 ^ 64
def Lb (i j:Int):Prop:=(-(2 ^ 64) < i/\i < 2 ^ 64)\/(-(2 ^ 64) < j/\j < 2 ^ 64)
theorem Lb.ok {i j:Int} (h:Lb i j):IntMulOk i j:=by
 rcases h with ⟨h1,h2⟩ | ⟨h1,h2⟩
 ·exact .of_left (intBits_le_64 h1 h2)
 ·exact .of_right (intBits_le_64 h1 h2)
theorem gK:OpR X (g9 .Add) (rI0 fun i j=>.int (i + j)):=opI0 fun _ _ _ _ _ _ _ q=>add_int q
theorem jv:OpR X (g9 .Sub) (rI0 fun i j=>.int (i - j)):=opI0 fun _ _ _ _ _ _ _ q=>sub_int q
theorem qm:OpR X (g9 .Mult) (rI Lb fun i j=>.int (i * j)):=opI fun _ _ _ _ _ _ _ hc q=>mul_int q hc.ok
theorem HN:OpR X (g9 .FloorDiv) (rI CDiv fun i j=>.int (i / j)):=opI fun i j _ _ _ _ _ hc q=>by
 have h1:(0:Int) < j:=hc.1;have h2:j < 1073741824:=hc.2;exact Eo (by omega) (by rw [xr i (by omega)]; exact q) (.inl (PyProof.noPylong_small (by omega)))
theorem qp:OpR X (g9 .Mod) (rI (fun _ j=>0 < j) fun i j=>.int (i % j)):=opI fun i j _ _ _ _ _ hc q=>by
 have h1:(0:Int) < j:=hc;exact mod_int' (by omega) (by rw [Int.fmod_eq_emod_of_nonneg i (by omega)]; exact q)
theorem HP:OpR X (g9 .Mod) (rI (fun _ j=>j≠0) fun i j=>.int (i.fmod j)):=opI fun _ _ _ _ _ _ _ hc q=>mod_int' hc q
theorem rK:OpR X (g9 .Pow) (rI Cm fun i j=>.int (i ^ j.toNat)):=opI fun _ _ _ _ _ _ _ hc q=>pow_int_small hc.1 hc.2.1 hc.2.2 q
theorem unI {f:ae->Sem ae} {g:Int->Int}
  (HL:∀ (i:Int) (t:Tok) (s:ak) (Q:ae->ak->Prop) (E:ae->ak->Prop),Q (.int (g i) s.toks) {s with toks:=s.toks + 1}->aU (aX X.prog X.w) X.A (f (.int i t)) Q E s) :
  UnR X f (rU fun i=>.int (g i)):=by
 intro pins s σ H x v Q I rx h;obtain ⟨i,rfl,q⟩:=h;obtain ⟨t,rfl⟩:=rx;exact HL i t s _ _ ⟨.int (g i),H,I.tok _,⟨_,rfl⟩,q⟩
theorem Ep:UnR X (unaryOp .USub) (rU fun i=>.int (-i)):=unI fun _ _ _ _ _ q=>neg_int q
end
def scal:V->V->Bool
 | .non,.non=>true | .non,.int _=>true | .int _,.non=>true | .non,.bl _=>true | .bl _,.non=>true | .non,.str _=>true | .str _,.non=>true
 | .int _,.int _=>true | .bl _,.bl _=>true | .str _,.str _=>true | .byt _,.byt _=>true
 | .int _,.str _=>true | .str _,.int _=>true | .bl _,.str _=>true | .str _,.bl _=>true
 | _,_=>false
def rEq:R2:=fun x y H Q=>scal x y=true/\Q (.bl (decide (x=y))) H
def rNe:R2:=fun x y H Q=>scal x y=true/\Q (.bl (!decide (x=y))) H
theorem A4 {i j:Int}:decide (V.int i=V.int j)=(i == j):=by
 rw [oE];simp
theorem Er {i j:Bool}:decide (V.bl i=V.bl j)=(i == j):=by
 rw [oE];simp
theorem A5 {i j:Str}:decide (V.str i=V.str j)=(i == j):=by
 rw [oE];simp
theorem A6 {i j:Array UInt8}:decide (V.byt i=V.byt j)=(i.toList == j.toList):=by
 rw [oE]
 cases i
 cases j;simp
section
variable {X:Cx} {a b c:cM} {ta tb tc:TE} {pos:Pos}
theorem eN {pins:List (aa×Obj)} {σ:St} {H:Hp} {s:ak} {Q:VK} {k k':Bool} (I:Inv X pins σ H s) (q:Q (.bl k) H) (e:k=k'):EP X pins σ Q (.bool k') s:=by
 subst e;exact ⟨.bl k,H,I,rfl,q⟩
theorem e7:OpR X (dv .Eq) rEq:=by
 intro pins s σ H x y v u Q I rx ry h;obtain ⟨hs,q⟩:=h
 cases x with
 | non =>
  cases rx
  cases y with
  | non=>cases ry; exact PySem.EqNone.eq_none_none (eN I q (by simp))
  | bl j=>cases ry; exact PySem.EqNone.eq_none_bool (eN I q (by simp))
  | int j=>obtain ⟨t',rfl⟩:=ry; exact PySem.EqNone.eq_none_int (eN I q (by simp))
  | str j=>obtain ⟨t',rfl⟩:=ry; exact PySem.EqNone.eq_none_str (eN I q (by simp))
  | _=>exact absurd (show false=true from hs) aY
 | bl i =>
  cases rx
  cases y with
  | non=>cases ry; exact PySem.EqNone.eq_bool_none (eN I q (by simp))
  | bl j=>cases ry; exact eq_bool (eN I q Er)
  | str j=>obtain ⟨t',rfl⟩:=ry; exact PySem.EqMixed.eq_bool_str (eN I q (by simp))
  | _=>exact absurd (show false=true from hs) aY
 | int i =>
  obtain ⟨t,rfl⟩:=rx
  cases y with
  | non=>cases ry; exact PySem.EqNone.eq_int_none (eN I q (by simp))
  | int j=>obtain ⟨t',rfl⟩:=ry; exact eq_int (eN I q A4)
  | str j=>obtain ⟨t',rfl⟩:=ry; exact PySem.EqMixed.eq_int_str (eN I q (by simp))
  | _=>exact absurd (show false=true from hs) aY
 | str i =>
  obtain ⟨t,rfl⟩:=rx
  cases y with
  | non=>cases ry; exact PySem.EqNone.eq_str_none (eN I q (by simp))
  | bl j=>cases ry; exact PySem.EqMixed.eq_str_bool (eN I q (by simp))
  | int j=>obtain ⟨t',rfl⟩:=ry; exact PySem.EqMixed.eq_str_int (eN I q (by simp))
  | str j=>obtain ⟨t',rfl⟩:=ry; exact eq_str (eN I q A5)
  | _=>exact absurd (show false=true from hs) aY
 | byt i =>
  obtain ⟨t,rfl⟩:=rx
  cases y with
  | byt j=>obtain ⟨t',rfl⟩:=ry; exact PySem.W.eq_bytes (eN I q A6)
  | _=>exact absurd (show false=true from hs) aY
 | _=>cases y <;> exact absurd (show false=true from hs) aY
theorem JN:OpR X (dv .NotEq) rNe:=by
 intro pins s σ H x y v u Q I rx ry h;obtain ⟨hs,q⟩:=h
 cases x with
 | non =>
  cases rx
  cases y with
  | non=>cases ry; exact PySem.EqNone.ne_none_none (eN I q (by simp))
  | bl j=>cases ry; exact PySem.EqNone.ne_none_bool (eN I q (by simp))
  | int j=>obtain ⟨t',rfl⟩:=ry; exact PySem.EqNone.ne_none_int (eN I q (by simp))
  | str j=>obtain ⟨t',rfl⟩:=ry; exact PySem.EqNone.ne_none_str (eN I q (by simp))
  | _=>exact absurd (show false=true from hs) aY
 | bl i =>
  cases rx
  cases y with
  | non=>cases ry; exact PySem.EqNone.ne_bool_none (eN I q (by simp))
  | bl j=>cases ry; exact ne_bool (eN I q (congrArg not Er))
  | str j=>obtain ⟨t',rfl⟩:=ry; exact PySem.EqMixed.ne_bool_str (eN I q (by simp))
  | _=>exact absurd (show false=true from hs) aY
 | int i =>
  obtain ⟨t,rfl⟩:=rx
  cases y with
  | non=>cases ry; exact PySem.EqNone.ne_int_none (eN I q (by simp))
  | int j=>obtain ⟨t',rfl⟩:=ry; exact ne_int (eN I q (congrArg not A4))
  | str j=>obtain ⟨t',rfl⟩:=ry; exact PySem.EqMixed.ne_int_str (eN I q (by simp))
  | _=>exact absurd (show false=true from hs) aY
 | str i =>
  obtain ⟨t,rfl⟩:=rx
  cases y with
  | non=>cases ry; exact PySem.EqNone.ne_str_none (eN I q (by simp))
  | bl j=>cases ry; exact PySem.EqMixed.ne_str_bool (eN I q (by simp))
  | int j=>obtain ⟨t',rfl⟩:=ry; exact PySem.EqMixed.ne_str_int (eN I q (by simp))
  | str j=>obtain ⟨t',rfl⟩:=ry; exact ne_str (eN I q (congrArg not A5))
  | _=>exact absurd (show false=true from hs) aY
 | byt i =>
  obtain ⟨t,rfl⟩:=rx
  cases y with
  | byt j=>obtain ⟨t',rfl⟩:=ry; exact PySem.W.ne_bytes (eN I q (congrArg not A6))
  | _=>exact absurd (show false=true from hs) aY
 | _=>cases y <;> exact absurd (show false=true from hs) aY
theorem p7:OpR X (dv .Lt) (rI0 fun i j=>.bl (decide (i < j))):=HM fun _ _ _ _ _ _ _ q=>lt_int q
theorem op_le:OpR X (dv .LtE) (rI0 fun i j=>.bl (decide (i<=j))):=HM fun _ _ _ _ _ _ _ q=>le_int q
theorem uE:OpR X (dv .Gt) (rI0 fun i j=>.bl (decide (j < i))):=HM fun _ _ _ _ _ _ _ q=>gt_int q
theorem JO:OpR X (dv .GtE) (rI0 fun i j=>.bl (decide (j<=i))):=HM fun _ _ _ _ _ _ _ q=>ge_int q
theorem cb (b:cM) {op:M5} (h:op≠.In:=by decide) (h2:op≠.NotIn:=by decide):jm op b=false:=by
 have e1:(op == CmpOp.In)=false:=by cases op <;> first | rfl | exact absurd rfl h
 have e2:(op == CmpOp.NotIn)=false:=by cases op <;> first | rfl | exact absurd rfl h2
 cases b <;> simp [jm,e1,e2]
theorem qJ {op:M5} {r:R2} (ho:OpR X (dv op) r) (ha:PE X a ta) (hb:PE X b tb) (hm:jm op b=false):PE X (.Compare a [op] [b] pos) (tOp r ta tb):=by
 intro pins s σ H Q I h;exact wpAny_Compare1 (La ha hb I h fun v u s2 x y H2 I2 rx ry q=>ho pins s2 σ H2 x y v u Q I2 rx ry q) hm
def tTest (t:TE):TT:=fun σ H Q=>t σ H fun x H'=>BlI x H' Q
theorem bP {op:M5} {r:R2} (ho:OpR X (dv op) r) (ha:PE X a ta) (hb:PE X b tb) (hm:jm op b=false):PT X (.Compare a [op] [b] pos) (tTest (tOp r ta tb)):=by
 intro pins s σ H Q I h;refine Hu (thn (ha pins s σ H _ I h) fun v s1 ⟨x,H1,I1,r1,q1⟩=>thn (hb pins s1 σ H1 _ I1 q1) fun u s2 ⟨y,H2,I2,r2,q2⟩ =>
  thn (ho pins s2 σ H2 x y v u _ I2 r1 r2 q2) fun c s3 ⟨z,H3,I3,r3,k,e,q3⟩=>?_) hm
 subst e
 cases r3;exact iH ⟨H3,I3,q3⟩
def TruV (K:af) (x:V) (H:Hp) (k:Bool):Prop:=
 match x with
 | .non=>k=false
 | .bl b=>k=b
 | .int i=>k=(i != 0)
 | .str y=>y.length<=aB/\k=((y.length:Int) != 0)
 | .byt y=>y.size<=aB/\k=((y.size:Int) != 0)
 | .ref p=>(∃ xs,SqL K H p xs/\k=!xs.isEmpty)\/(∃ xs,SqT K H p xs/\k=!xs.isEmpty)\/∃ kvs,H p=some (.dK kvs)/\k=!kvs.isEmpty
 | _=>False
theorem z5 {κ:Type} {kvs:List (κ×V)} {vs:List (κ×ae)} (r:KV kvs vs):(!vs.isEmpty)=!kvs.isEmpty:=by
 cases r <;> rfl
theorem uF {xs:List V} {its:List ae} (r:cU xs its):(!its.toArray.isEmpty)=!xs.isEmpty:=by
 cases r <;> simp
theorem rL:(aB:Nat) < 2 ^ 63:=by rw [kH]; decide
theorem Lc:TruR X (fun x H Q=>∃ k,TruV X.K x H k/\Q k H):=by
 intro pins s σ H x v Q I rx h;obtain ⟨k,e,q⟩:=h;have hl:=rL;have hs:aB=16777216:=kH
 cases x with
 | non =>
  cases rx;have e':k=false:=e;subst e';exact truthy_none ⟨H,I,q⟩
 | bl b =>
  cases rx;have e':k=b:=e;subst e';exact iH ⟨H,I,q⟩
 | int i =>
  obtain ⟨t,rfl⟩:=rx;have e':k=(i != 0):=e;subst e';exact PySem.P.truthy_int ⟨H,I,q⟩
 | str y =>
  obtain ⟨t,rfl⟩:=rx;obtain ⟨hy,e'⟩:y.length<=aB/\k=((y.length:Int) != 0):=e;subst e';exact PySem.P.truthy_str (by omega) ⟨H,I.tok _,q⟩
 | byt y =>
  obtain ⟨t,rfl⟩:=rx;obtain ⟨hy,e'⟩:y.size<=aB/\k=((y.size:Int) != 0):=e;subst e';exact PySem.W.truthy_bytes (by omega) ⟨H,I.tok _,q⟩
 | ref p =>
  cases rx;have e':(∃ xs,SqL X.K H p xs/\k=!xs.isEmpty)\/(∃ xs,SqT X.K H p xs/\k=!xs.isEmpty)\/∃ kvs,H p=some (.dK kvs)/\k=!kvs.isEmpty:=e
  rcases e' with ⟨xs,hx,e'⟩ | ⟨xs,hx,e'⟩ | ⟨kvs,hx,e'⟩
  ·subst e';obtain ⟨its,r,pl,hz⟩:=I.list hx;have hlen:=r.length;exact wpAny_truthy_list pl.isList (by simp only [aG]; omega) ⟨H,I.tok _,by rw [uF r]; exact q⟩
  ·subst e';obtain ⟨its,r,pl,hz⟩:=I.tuple hx;have hlen:=r.length;exact truthy_tuple pl (by simp only [aG]; omega) ⟨H,I.tok _,by rw [uF r]; exact q⟩
  ·subst e';obtain ⟨hz,hS,vs,r,m⟩:kvs.length<=aB/\(p == eQ)=false/\∃ vs,KV kvs vs/\s.heap.DictOf (eM X.prog X.w) p vs:=I.hok p _ hx;have hlen:kvs.length=vs.length:=aZ r;exact wpAny_truthy_dict hS m (by omega) ⟨H,I.tok _,by rw [z5 r]; exact q⟩
 | _=>exact (show False from e).elim
theorem uH (ha:PE X a ta) (he:∀ whole,Eg a X.env whole=(do let v <- whole; sQ a.pos; om [v] (truthy v))) :
  PT X a (fun σ H Q=>ta σ H fun x H'=>∃ k,TruV X.K x H' k/\Q k H'):=by
 intro pins s σ H Q I h;exact isTrue_plain (thn (ha pins s σ H _ I h) fun v s1 ⟨x,H1,I1,r1,q1⟩=>Lc pins s1 σ H1 x v Q I1 r1 q1) (he _)
theorem uI:OpR X (g9 .Add) (fun x y H Q=>∃ i j,x=.str i/\y=.str j/\i.length + j.length<=aB/\Q (.str (i++j)) H):=by
 intro pins s σ H x y v u Q I rx ry h;obtain ⟨i,j,rfl,rfl,hz,q⟩:=h;obtain ⟨t,rfl⟩:=rx;obtain ⟨t',rfl⟩:=ry;exact add_str (fun t' tk=>⟨.str (i++j),H,I.tok _,⟨_,rfl⟩,q⟩) hz
theorem vals1 {x:V} {us:List ae} (r:cU [x] us):∃ u,us=[u]/\RelV x u:=by
 cases r with
 | cons r1 r2=>cases r2; exact ⟨_,rfl,r1⟩
theorem vals2 {x y:V} {us:List ae} (r:cU [x,y] us):∃ u w',us=[u,w']/\RelV x u/\RelV y w':=by
 cases r with
 | cons r1 r2 =>
  cases r2 with
  | cons r3 r4=>cases r4; exact ⟨_,_,rfl,r1,r3⟩
theorem Es:jH X (.builtin "abs") (fun xs H Q=>∃ i,xs=[.int i]/\Q (.int (if i < 0 then -i else i)) H):=by
 intro pins s σ H xs us Q I r h;obtain ⟨i,rfl,q⟩:=h;obtain ⟨u,rfl,t,rfl⟩:=vals1 r;exact call_abs_int fun u tk=>⟨.int (if i < 0 then -i else i),H,I.tok _,⟨_,rfl⟩,q⟩
theorem wz (hc:X.calm=true):jH X (.builtin "max") (fun xs H Q=>∃ i j,xs=[.int i,.int j]/\Q (.int (if j > i then j else i)) H):=by
 intro pins s σ H xs us Q I r h;obtain ⟨i,j,rfl,q⟩:=h;obtain ⟨u,w',rfl,⟨t,rfl⟩,⟨t',rfl⟩⟩:=vals2 r;refine max_two_ints (I.ok.hd hc) fun h' tk k=>⟨_,H,I.kept k,?_,q⟩
 by_cases hj:j > i
 ·rw [if_pos hj,if_pos hj]; exact ⟨_,rfl⟩
 ·rw [if_neg hj,if_neg hj]; exact ⟨_,rfl⟩
theorem Co (hc:X.calm=true):jH X (.builtin "min") (fun xs H Q=>∃ i j,xs=[.int i,.int j]/\Q (.int (if j < i then j else i)) H):=by
 intro pins s σ H xs us Q I r h;obtain ⟨i,j,rfl,q⟩:=h;obtain ⟨u,w',rfl,⟨t,rfl⟩,⟨t',rfl⟩⟩:=vals2 r;refine min_two_ints (I.ok.hd hc) fun h' tk k=>⟨_,H,I.kept k,?_,q⟩
 by_cases hj:j < i
 ·rw [if_pos hj,if_pos hj]; exact ⟨_,rfl⟩
 ·rw [if_neg hj,if_neg hj]; exact ⟨_,rfl⟩
theorem pH:jH X (.type "int") (fun xs H Q=>(∃ i,xs=[.int i]/\Q (.int i) H)\/∃ k,xs=[.bl k]/\Q (.int (if k then 1 else 0)) H):=by
 intro pins s σ H xs us Q I r h
 rcases h with ⟨i,rfl,q⟩ | ⟨k,rfl,q⟩
 ·obtain ⟨u,rfl,t,rfl⟩:=vals1 r;exact call_int_int ⟨.int i,H,I,⟨_,rfl⟩,q⟩
 ·obtain ⟨u,rfl,r1⟩:=vals1 r
  cases r1;exact call_int_bool ⟨.int (if k then 1 else 0),H,I.tok _,⟨_,rfl⟩,q⟩
end
structure z6 (h:cu) (x dx C:aa) (mA:Str->Option ae):Prop where
 obj:h.get? x=some (gu C dx)
 ns:h.Ns1 dx mA
 ne:dx≠x
theorem Cp {h:cu} {dx:aa} {mA:Str->Option ae} (n:h.Ns1 dx mA):∃ od,h.get? dx=some od/\∀ name,oF name od=some (mA name):=by
 obtain ⟨o,es,ep,ho,hd,hk,_,hm⟩:=n;refine ⟨o,ho,fun name=>?_⟩;have e:=hm name;unfold nsFind findBy at e;rw [<- Array.find?_toList] at e;unfold oF;rw [hd];dsimp only
 split
 ·rename_i y q
  rw [q] at e;exact congrArg some e
 ·rename_i q
  rw [q] at e;have a:es.toList.any (·.refKey)=false:=by
   rw [List.any_eq_false];intro y hy;obtain ⟨z,t,hkey⟩:=hk y (Array.mem_toList_iff.mp hy);simp [DictEntry.refKey,hkey]
  have a':¬ es.toList.any (·.refKey)=true:=by rw [a]; exact aY
  rw [if_neg a'];exact congrArg some e
theorem z6.look {h:cu} {x dx C:aa} {mA:Str->Option ae} (I:z6 h x dx C mA):∃ od,i9 h x (gu C dx) C (some od)/\∀ name,oF name od=some (mA name):=
 let ⟨od,ho,hl⟩:=Cp I.ns
 ⟨od,⟨I.obj,rfl,rfl,ho⟩,hl⟩
section
variable {prog:aJ} {w:bJ} {A:bS} {E:ae->ak->Prop} {s:ak} {K:af} {x dx C f:aa} {mA:Str->Option ae} {name:Str} {v:ae}
theorem HQ {expr:Bool} {Q:ae->ak->Prop} (X:K.In s.heap) (I:z6 s.heap x dx C mA) (hg:lN K C name=true) (hh:qK K C=true)
  (ha:aQ K (.ref C) name=some none) (hv:mA name=some v) (hv':Cq v=true) (h:Q v {s with toks:=s.toks + 1}) :
  aU (aX prog w) A (getAttr (.ref x) name expr) Q E s:=by
 obtain ⟨od,J,hl⟩:=I.look;exact PySem.W.get_value X J (pY hg).1 (PySem.W.findObj_own hh ha rfl (by rw [hl,hv])) hv' h
theorem Et {pl:Sem Bool} {Q:ae×List ae->ak->Prop} (X:K.In s.heap) (I:z6 s.heap x dx C mA) (hg:lN K C name=true)
  (hf:aQ K (.ref C) name=some (some (.ref f))) (ht:mI K (.ref f)=true) (hv:mA name=none) (h:Q (.ref f,[.ref x]) s) :
  aU (aX prog w) A (j6 (.ref x) name pl) Q E s:=by
 obtain ⟨od,J,hl⟩:=I.look;exact PySem.W.method_fn X J (pY hg).1 (pY hg).2 hf (beq_iff_eq.mp ht) (by show (oF name od).map (·.isSome)=some false; rw [hl,hv]; rfl) h
theorem HR {ns:List Str} {Q:Unit->ak->Prop} (X:K.In s.heap) (I:z6 s.heap x dx C mA)
  (hs:aQ K (.ref C) "__setattr__"=some (some (.builtin "object.__setattr__"))) (hp:A7 K C=true) (ht:tH K C name=some none) (hh:qK K C=true)
  (hw:yL mA ns) (hsz:ns.length<=aB)
  (h:∀ h',z6 h' x dx C (fun y=>if y=name then some v else mA y)->sP dx s.heap h'->Q () {s with heap:=h',toks:=s.toks + 2}) :
  aU (aX prog w) A (setAttr (.ref x) name v) Q E s:=by
 obtain ⟨od,J,hl⟩:=I.look;refine PySem.W.set_plain X J hs (PySem.W.osa_open (s:={s with toks:=s.toks + 1}) (r:=none) X J hp ht fun b=>?_);obtain ⟨cd,hc,hd'⟩:=PySem.W.any_some hh;have hx:s.heap.get? x=some ⟨.ref C,some dx,.plain,#[]⟩:=I.obj;refine aq (aV (aq (aq (z7 hx (aq (PySem.W.Looks.here (s:={s with toks:=s.toks + 1}) (PySem.W.looks_clsIn X hc) ?_))))));rw [hd'];refine aV (a:=some dx) (aq (aV (aq ?_)));refine wpAny_nsSet1 (s:={s with toks:=s.toks + 1}) I.ns fun h' hn2 hs2=>?_;obtain ⟨oD,esD,epD,hoD,hdD,hcD⟩:=hn2.count (PySem.Within.cons name v hw);refine aq (wpAny_lookBehind hoD (by rw [hdD]; exact pastItsLine_dict (cZ hcD (by rw [aT]; omega))) ?_);exact aV (h _ ⟨(hs2.2 _ (fj I.ne)).trans I.obj,hn2,I.ne⟩ hs2)
theorem Eu {R:Ew->ak->Prop} {vs:List ae} {kw:List (Str×ae)} (X:K.In s.heap) (hm:tI K C=true)
  (hi:aQ K (.ref C) "__init__"=some (some (.ref f))) (hf:Ey K (.ref f)=some (.type "function"))
  (h:lO (aX prog w) (A.under (.builtin "type.__call__" ⟨.ref C :: vs,kw⟩)) (.call (.ref f) ⟨.ref (s.heap.objs.size + 1) :: vs,kw⟩) (PySem.W.InitBack (s.heap.objs.size + 1) R)
   {s with heap:=(s.heap.push eR).push (gu C s.heap.objs.size)}) :
  lO (aX prog w) A (.call (.ref C) ⟨vs,kw⟩) R s:=by
 obtain ⟨hh,g,d,t,os⟩:=s;exact PySem.W.make_core (PySem.W.makes_of X hm) (gx X hi) (fun self=>PySem.W.bind_fn X self hf) (.inl rfl) h
end
def cD (f:Str) (v:V):List (Str×V)->List (Str×V)
 | []=>[(f,v)]
 |(g,x) :: r=>if g=f then (g,v) :: r else (g,x) :: cD f v r
theorem sT (f g:Str) (v:V):∀ fs:List (Str×V),(cD f v fs).lookup g=if g=f then some v else fs.lookup g
 | []=>by
  show jV g [(f,v)]=_
  by_cases h:g=f
  ·have hb:(g == f)=true:=beq_iff_eq.mpr h;simp only [jV,hb,if_pos h]
  ·have hb:(g == f)=false:=beq_eq_false_iff_ne.mpr h;simp only [jV,hb,if_neg h]
 |(k,x) :: r=>by
  have ih:=sT f g v r;rw [show cD f v ((k,x) :: r)=(if k=f then (k,v) :: r else (k,x) :: cD f v r) from rfl]
  by_cases hk:k=f
  ·rw [if_pos hk]
   by_cases h:g=k
   ·have hb:(g == k)=true:=beq_iff_eq.mpr h;simp only [jV,hb,if_pos (h.trans hk)]
   ·have hb:(g == k)=false:=beq_eq_false_iff_ne.mpr h;simp only [jV,hb,if_neg (fun e:g=f=>h (e.trans hk.symm))]
  ·rw [if_neg hk]
   by_cases h:g=k
   ·have hb:(g == k)=true:=beq_iff_eq.mpr h;simp only [jV,hb,if_neg (fun e:g=f=>hk (h.symm.trans e))]
   ·have hb:(g == k)=false:=beq_eq_false_iff_ne.mpr h;simp only [jV,hb];exact ih
theorem rM (f:Str) (v:V):∀ fs:List (Str×V),f∈(cD f v fs).map (·.1)/\∀ g,g∈fs.map (·.1)->g∈(cD f v fs).map (·.1)
 | []=>⟨by simp [cD],fun g h=>by simp at h⟩
 |(k,x) :: r=>by
  obtain ⟨i1,i2⟩:=rM f v r;rw [show cD f v ((k,x) :: r)=(if k=f then (k,v) :: r else (k,x) :: cD f v r) from rfl]
  by_cases hk:k=f
  ·rw [if_pos hk];subst hk;exact ⟨by simp,fun g h=>by simpa using h⟩
  ·rw [if_neg hk];refine ⟨?_,fun g h=>?_⟩
   ·rw [bQ];exact ag _ i1
   ·rw [bQ] at h |-
    rcases au.mp h with e | e
    ·exact au.mpr (.inl e)
    ·exact ag _ (i2 g e)
theorem sU (f:Str) (v:V):∀ fs:List (Str×V),(cD f v fs).length<=fs.length + 1
 | []=>by simp [cD]
 |(k,x) :: r=>by
  have ih:=sU f v r;rw [show cD f v ((k,x) :: r)=(if k=f then (k,v) :: r else (k,x) :: cD f v r) from rfl]
  by_cases hk:k=f
  ·rw [if_pos hk,aT,aT]; omega
  ·rw [if_neg hk,aT,aT]; omega
theorem pX.some_of {v:V} {o:Option ae} (r:pX (some v) o):∃ u,o=some u/\RelV v u:=by
 cases o with
 | none=>exact (show False from r).elim
 | some u=>exact ⟨u,rfl,r⟩
theorem pX.none_of {o:Option ae} (r:pX none o):o=none:=by
 cases o with
 | none=>rfl
 | some u=>exact (show False from r).elim
theorem Cr {v:V} {u:ae} (r:RelV v u):Cq u=true:=by
 cases v with
 | non=>cases (show u=Value.none from r); rfl
 | bl b=>cases (show u=Value.bool b from r); rfl
 | int i=>obtain ⟨t,e⟩:=(show ∃ t,u=Value.int i t from r); cases e; rfl
 | str x=>obtain ⟨t,e⟩:=(show ∃ t,u=Value.str x t from r); cases e; rfl
 | byt b=>obtain ⟨t,e⟩:=(show ∃ t,u=Value.bytes b t from r); cases e; rfl
 | flt b=>obtain ⟨t,e⟩:=(show ∃ t,u=Value.float b t from r); cases e; rfl
 | ref a=>cases (show u=Value.ref a from r); rfl
 | ty n=>cases (show u=Value.type n from r); rfl
section
variable {P:aJ} {w:bJ} {H H':Hp} {h h':cu} {a C dx:aa} {fs fs':List (Str×V)}
theorem tT (hok:HOk P w H h) (e:H a=some (.ins C dx fs)):∃ mA,z6 h a dx C mA/\(∀ f,pX (fs.lookup f) (mA f))/\yL mA (fs.map (·.1))/\fs.length<=1000/\H dx=some (.own a):=by
 obtain ⟨d,z,ne,ob,mA,n,r,q⟩:=(show eB P w H h a (.ins C dx fs) from hok a _ e);exact ⟨mA,⟨ob,n,ne⟩,r,q,z,d⟩
end
structure Cls (K:af) (C:aa):Prop where
 pg:lN K C Str.empty=true
 hd:qK K C=true
 po:A7 K C=true
 sa:aQ K (.ref C) "__setattr__"=some (some (.builtin "object.__setattr__"))
theorem Cls.get {K:af} {C:aa} (c:Cls K C) (f:Str):lN K C f=true:=c.pg
def d8 (K:af) (C:aa) (f:Str):Prop:=aQ K (.ref C) f=some none
theorem d8.taker {K:af} {C:aa} {f:Str} (n:d8 K C f):tH K C f=some none:=by
 unfold tH;rw [show aQ K (.ref C) f=some none from n];rfl
structure vK (K:af) (C:aa) (m:Str) (f:aa):Prop where
 at_:aQ K (.ref C) m=some (some (.ref f))
 fn:mI K (.ref f)=true
 kp:gi K (.ref f)=true
section
variable {X:Cx} {pins:List (aa×Obj)} {σ:St} {H:Hp} {s:ak} {a C dx:aa} {fs:List (Str×V)} {f:Str} {v:V} {A:bS} {E:ae->ak->Prop}
theorem uJ {b:Bool} {Q:ae->ak->Prop} (I:Inv X pins σ H s) (e:H a=some (.ins C dx fs)) (c:Cls X.K C) (n:d8 X.K C f) (l:fs.lookup f=some v)
  (h:∀ u s',Inv X pins σ H s'->RelV v u->Q u s'):aU (aX X.prog X.w) A (getAttr (.ref a) f b) Q E s:=by
 obtain ⟨mA,O,r,_,_,_⟩:=tT I.hok e;obtain ⟨u,hu,ru⟩:=pX.some_of (v:=v) (o:=mA f) (by rw [<- l]; exact r f);exact HQ I.kIn O (c.get f) c.hd n hu (Cr ru) (h u _ (I.tok _) ru)
theorem mJ {m:Str} {g:aa} {pl:Sem Bool} {Q:ae×List ae->ak->Prop} (I:Inv X pins σ H s) (e:H a=some (.ins C dx fs)) (c:Cls X.K C) (k:vK X.K C m g) (l:fs.lookup m=none)
  (h:Q (.ref g,[.ref a]) s):aU (aX X.prog X.w) A (j6 (.ref a) m pl) Q E s:=by
 obtain ⟨mA,O,r,_,_,_⟩:=tT I.hok e;have hn:mA m=none:=pX.none_of (by rw [<- l]; exact r m);exact Et I.kIn O (c.get m) k.at_ k.fn hn h
theorem uK {y:V} {u:ae} {Q:Unit->ak->Prop} (I:Inv X pins σ H s) (e:H a=some (.ins C dx fs)) (c:Cls X.K C) (n:d8 X.K C f) (hl:fs.length < 1000) (ry:RelV y u)
  (h:∀ s',Inv X pins σ (upd H a (.ins C dx (cD f y fs))) s'->Q () s'):aU (aX X.prog X.w) A (setAttr (.ref a) f u) Q E s:=by
 obtain ⟨mA,O,r,wi,_,ho⟩:=tT I.hok e;have hz:(fs.map (·.1)).length<=aB:=by rw [ar,kH]; omega
 refine HR I.kIn O c.sa c.po n.taker c.hd wi hz fun h' O' sb=>h _ ?_;have hd:∃ o,h'.get? dx=some o:=let ⟨o,_,_,e',_⟩:=O'.ns; ⟨o,e'⟩;refine I.write (x:=a) (e:=dx) (by rw [e]; exact True.intro) (.inr ho) (fun b q hb z=>(sb.2 b hb).trans z) hd ?_;refine ⟨by rw [aH O.ne]; exact ho,?_,O.ne,O'.obj,_,O'.ns,fun g=>?_,fun g hg=>?_⟩
 ·have:=sU f y fs; omega
 ·show pX ((cD f y fs).lookup g) (if g=f then some u else mA g);rw [sT]
  by_cases q:g=f
  ·rw [if_pos q,if_pos q]; exact ry
  ·rw [if_neg q,if_neg q]; exact r g
 ·by_cases q:g=f
  ·rw [q]; exact (rM f y fs).1
  ·refine (rM f y fs).2 g (wi g fun z=>hg ?_);show (if g=f then some u else mA g)=none;rw [if_neg q]; exact z
theorem Inv.made (I:Inv X pins σ H s):Inv X pins σ (upd (upd H s.heap.objs.size (.own (s.heap.objs.size + 1))) (s.heap.objs.size + 1) (.ins C s.heap.objs.size []))
  {s with heap:=(s.heap.push eR).push (gu C s.heap.objs.size)}:=by
 have e1:(s.heap.push eR).get? s.heap.objs.size=some eR:=cj s.heap rfl;have e2:((s.heap.push eR).push (gu C s.heap.objs.size)).get? (s.heap.objs.size + 1)=some (gu C s.heap.objs.size):=by
  have:=cj (s.heap.push eR) (o:=gu C s.heap.objs.size) rfl
  rwa [p8] at this
 have e3:(s.heap.push eR).Ns s.heap.objs.size (fun _=>none):=⟨eR,#[],_,e1,rfl,(fun e he=>absurd he (by simp)),fun _=>rfl⟩;have I1:=I.laid (a:=s.heap.objs.size) (o:=.own (s.heap.objs.size + 1)) (h':=s.heap.push eR) (t':=s.toks) (fun b u q=>aI _ q) (aC _) ⟨_,e1⟩;refine I1.laid (a:=s.heap.objs.size + 1) (o:=.ins C s.heap.objs.size []) (t':=s.toks) (fun b u q=>aI _ q) (z8 (p8 _ _)) ?_;have ne:s.heap.objs.size≠s.heap.objs.size + 1:=aO (uL _);refine ⟨by rw [aH ne,ah],bT _,ne,e2,fun _=>none,(Heap.Ns1.of_empty e3).at fun o q=>aI _ q,fun _=>True.intro,fun y hy=>absurd rfl hy⟩
theorem HS {prog:aJ} {w:bJ} {env:Env} {e:cM} {f:Str} {pos:Pos} {s:ak} {Q:ae->ak->Prop} (hb:kC e f env (fc e env)=fc e env)
  (h:aU (aX prog w) A (fc e env) (fun o s₁=>aU (aX prog w) A (getAttr o f true) Q E s₁) E s):aU (aX prog w) A (fc (.Attribute e f pos) env) Q E s:=
 Attribute_any_ h (by rw [arm_eval_Attribute,hb])
end
inductive FldI (K:af) (f:Str) (x:V) (H:Hp) (Q:VK):Prop where
 | mk (a C dx:aa) (fs:List (Str×V)) (v:V) (hx:x=.ref a) (h:H a=some (.ins C dx fs)) (c:Cls K C) (n:d8 K C f) (e:fs.lookup f=some v) (q:Q v H):FldI K f x H Q
def Ld (K:af) (ta:TE) (f:Str):TE:=fun σ H Q=>ta σ H fun x H1=>FldI K f x H1 Q
def sFld (K:af) (ta tv:TE) (f:Str):TS:=fun D σ H=>tv σ H fun y H1=>ta σ H1 fun x H2=>∃ a C dx fs,x=.ref a/\H2 a=some (.ins C dx fs)/\Cls K C/\d8 K C f/\fs.length < 1000 /\
 D.nx σ (upd H2 a (.ins C dx (cD f y fs)))
def InOp (X:Cx) (op:HK) (rd:V->V->Hp->VK->Prop):Prop:=
 ∀ (pins:List (aa×Obj)) (s:ak) (σ:St) (H:Hp) (x y:V) (u v:ae) (Q:VK),Inv X pins σ H s->RelV x u->RelV y v->rd x y H Q->aU (aX X.prog X.w) X.A (inplaceOp op u v) (EP X pins σ Q) X.xe s
def HU (K:af) (ta tv:TE) (rd:V->V->Hp->VK->Prop) (f:Str):TS:=fun D σ H=>ta σ H fun x H1=>∃ a C dx fs v,x=.ref a/\H1 a=some (.ins C dx fs)/\Cls K C/\d8 K C f/\fs.lookup f=some v /\
 tv σ H1 fun y H2=>rd v y H2 fun z H3=>∃ dx' fs',H3 a=some (.ins C dx' fs')/\fs'.length < 1000/\D.nx σ (upd H3 a (.ins C dx' (cD f z fs')))
section
variable {X:Cx} {o e value:cM} {f:Str} {pos pos' tpos:Pos} {ta tv:TE}
theorem cO (he:PE X e ta) (hb:kC e f X.env (fc e X.env)=fc e X.env):PE X (.Attribute e f pos) (Ld X.K ta f):=by
 intro pins s σ H Q I h;refine HS hb (thn (he pins s σ H _ I h) fun u s1 ⟨x,H1,I1,rx,a,C,dx,fs,v,ex,ea,c,n,l,q⟩=>?_);subst ex;obtain rfl:u=Value.ref a:=rx;exact uJ I1 ea c n l fun u' s2 I2 ru=>⟨v,H1,I2,ru,q⟩
theorem d9 (ha:PE X o ta) (hv:PE X value tv) (hs:sR value (some (.Attribute o f pos')) pos.line X.env=pure false):PS X (.Assign [.Attribute o f pos'] value pos) (sFld X.K ta tv f):=by
 intro pins s σ H D I h;refine plainObj_wpAny_Assign_Attribute (thn (hv pins s σ H _ I h) fun u s1 ⟨y,H1,I1,ry,q⟩=>thn (ha pins s1 σ H1 _ I1 q) fun ov s2 ⟨x,H2,I2,rx,a,C,dx,fs,ex,ea,c,n,l,q2⟩=>?_) hs;subst ex;obtain rfl:ov=Value.ref a:=rx;exact uK I2 ea c n l ry fun s3 I3=>⟨σ,_,I3,q2⟩
theorem wA {op:HK} {rd:V->V->Hp->VK->Prop} (ha:PE X o ta) (hv:PE X value tv) (hop:InOp X op rd):PS X (.AugAssign (.Attribute o f tpos) op value pos) (HU X.K ta tv rd f):=by
 intro pins s σ H D I h;refine wpAny_AugAssign_AttributeAny (thn (ha pins s σ H _ I h) fun ov s1 ⟨x,H1,I1,rx,a,C,dx,fs,v,ex,ea,c,n,l,q⟩=>?_);subst ex;obtain rfl:ov=Value.ref a:=rx;refine uJ I1 ea c n l fun u s2 I2 ru=>thn (hv pins s2 σ H1 _ I2 q) fun w3 s3 ⟨y,H2,I3,ry,q3⟩=>thn (hop pins s3 σ H2 v y u w3 _ I3 ru ry q3) fun w4 s4 ⟨z,H3,I4,rz,dx',fs',ea',l',q4⟩=>?_;exact uK I4 ea' c n l' rz fun s5 I5=>⟨σ,_,I5,q4⟩
def rAdd:V->V->Hp->VK->Prop:=fun x y H Q=>∃ i j,x=.int i/\y=.int j/\Q (.int (i + j)) H
theorem Ez:InOp X .Add rAdd:=by
 rintro pins s σ H x y u v Q I rx ry ⟨i,j,rfl,rfl,q⟩;obtain ⟨t,rfl⟩:=(show ∃ t,u=Value.int i t from rx);obtain ⟨t',rfl⟩:=(show ∃ t',v=Value.int j t' from ry);exact PyProof.Rows.iadd_int ⟨.int (i + j),H,I.tok _,⟨_,rfl⟩,q⟩
theorem methcall_of {pl:Sem Bool} {m:Str} {apos:Pos} {args:List cM} {pins:List (aa×Obj)} {s:ak} {σ:St} {H:Hp} {Q:ae->ak->Prop} {te:TE} (he:PE X e te) (I:Inv X pins σ H s)
  (h:te σ H fun x H1=>∃ a C dx fs g,x=.ref a/\H1 a=some (.ins C dx fs)/\Cls X.K C/\vK X.K C m g/\fs.lookup m=none /\
   ∀ s1,Inv X pins σ H1 s1->aU (aX X.prog X.w) X.A (vL pos (.ref g) [.ref a] (ia pos (cw args X.env)) (kJ pos (hZ [] X.env))) Q X.xe s1)
  (ht:fc (.Call (.Attribute e m apos) args [] pos) X.env=(do
   let ov <- fc e X.env
   sQ apos.atName
   let (f,first) <- om [ov] (j6 ov m pl)
   vL pos f first (ia pos (cw args X.env)) (kJ pos (hZ [] X.env)))) :
  aU (aX X.prog X.w) X.A (fc (.Call (.Attribute e m apos) args [] pos) X.env) Q X.xe s:=by
 refine hJ (pl:=pl) (thn (he pins s σ H _ I h) fun u s1 ⟨x,H1,I1,rx,a,C,dx,fs,g,ex,ea,c,k,l,q⟩=>?_) ht;subst ex;obtain rfl:u=Value.ref a:=rx;exact mJ I1 ea c k l (q s1 I1)
end
section
variable {X:Cx} {pins:List (aa×Obj)} {σ:St} {H:Hp} {s:ak} {A:bS} {E:ae->ak->Prop} {Q:ae->ak->Prop} {c:ae} {b:Bool}
inductive rN (K:af) (H:Hp):V->ae->Prop where
 | non:rN K H .non (.type "NoneType")
 | bl (x:Bool):rN K H (.bl x) (.type "bool")
 | int (i:Int):rN K H (.int i) (.type "int")
 | str (x:Str):rN K H (.str x) (.type "str")
 | flt (x:UInt64):rN K H (.flt x) (.type "float")
 | lst {a:aa} {xs:List V} (e:H a=some (.lst xs)):rN K H (.ref a) (.type "list")
 | frz {a:aa} {o:Obj} {xs:List V} (e:H a=some (.frz o (.lst xs))):rN K H (.ref a) (.type "list")
 | tup {a:aa} {xs:List V} (e:H a=some (.tup xs)):rN K H (.ref a) (.type "tuple")
 | dK {a:aa} {kvs:List (Key×V)} (e:H a=some (.dK kvs)):rN K H (.ref a) (.type "dict")
 | dT {a:aa} {kvs:List (List Key×V)} (e:H a=some (.dT kvs)):rN K H (.ref a) (.type "dict")
 | ins {a C dx:aa} {fs:List (Str×V)} (e:H a=some (.ins C dx fs)) (cl:Cls K C) (ha:aQ K (.ref C) "__class__"=some (some (.builtin "object.__class__")))
   (hn:A8 K (.builtin "object.__class__") "__get__"=some (some (.builtin "getset_descriptor.__get__"))) (htk:DH K (.builtin "object.__class__")=some true)
   (hm:vM K C (.type "object")=some true):rN K H (.ref a) (.ref C)
theorem Cs {x:V} {u t:ae} (I:Inv X pins σ H s) (rx:RelV x u) (ty:rN X.K H x t) (e:dP X.K t c=some b) (h:∀ tk,Q (.bool b) {s with toks:=tk}) :
  aU (aX X.prog X.w) A (vJ (.builtin "isinstance") [u,c]) Q E s:=by
 cases ty with
 | non=>cases (show u=Value.none from rx); exact dW PySem.W.kitx_none I.kIn True.intro e (fun z=>nomatch z) h
 | bl y=>cases (show u=Value.bool y from rx); exact dW PySem.W.kitx_bool I.kIn True.intro e (fun z=>nomatch z) h
 | int i=>obtain ⟨t,q⟩:=(show ∃ t,u=Value.int i t from rx); cases q; exact dW PySem.W.kitx_int I.kIn True.intro e (fun z=>nomatch z) h
 | str y=>obtain ⟨t,q⟩:=(show ∃ t,u=Value.str y t from rx); cases q; exact dW PySem.W.kitx_str I.kIn True.intro e (fun z=>nomatch z) h
 | flt y=>obtain ⟨t,q⟩:=(show ∃ t,u=Value.float y t from rx); cases q; exact dW PySem.W.kitx_float I.kIn True.intro e (fun z=>nomatch z) h
 | @lst a xs ea =>
  cases (show u=Value.ref a from rx);obtain ⟨_,_,n,_,h1⟩:=(show eB X.prog X.w H s.heap a (.lst xs) from I.hok a _ ea);exact dW A9 I.kIn ⟨_,h1,rfl⟩ e (fun z=>nomatch z) h
 | @frz a ob xs ea =>
  cases (show u=Value.ref a from rx);obtain ⟨_,_,_,n,_,h1⟩:=(show eB X.prog X.w H s.heap a (.frz ob (.lst xs)) from I.hok a _ ea);exact dW A9 I.kIn ⟨_,h1,rfl⟩ e (fun z=>nomatch z) h
 | @tup a xs ea =>
  cases (show u=Value.ref a from rx);obtain ⟨_,_,_,p⟩:=(show eB X.prog X.w H s.heap a (.tup xs) from I.hok a _ ea);obtain ⟨o,h1,h2,_⟩:=p;exact dW PySem.W.kitx_tuple I.kIn ⟨o,h1,h2⟩ e (fun z=>nomatch z) h
 | @dK a kvs ea =>
  cases (show u=Value.ref a from rx);obtain ⟨_,_,vs,_,p⟩:=(show eB X.prog X.w H s.heap a (.dK kvs) from I.hok a _ ea);obtain ⟨o,es,ep,h1,h2,_⟩:=p;exact dW Ba I.kIn ⟨o,h1,h2.1⟩ e (fun z=>nomatch z) h
 | @dT a kvs ea =>
  cases (show u=Value.ref a from rx);obtain ⟨_,_,xs,_,o,es,ep,h1,h2,_⟩:=(show eB X.prog X.w H s.heap a (.dT kvs) from I.hok a _ ea);exact dW Ba I.kIn ⟨o,h1,h2.1⟩ e (fun z=>nomatch z) h
 | @ins a C dx fs ea cl ha hn htk hm =>
  cases (show u=Value.ref a from rx);obtain ⟨mA,O,_⟩:=tT I.hok ea;obtain ⟨od,J,_⟩:=O.look;exact dW (PySem.W.kitx_own (cl.get _) cl.hd ha hn htk hm) I.kIn J e (fun z=>nomatch z) h
end
structure c5 (k:Nat) (A:bS):Prop where
 hd:A.handled=none
 dp:A.depth + 3 * k + 5 < recursionLimit
 un:A.units + 16 * k + 200 < eO
theorem c5.mono {j k:Nat} {A:bS} (r:c5 k A) (h:j<=k):c5 j A:=⟨r.hd,by have:=r.dp; omega,by have:=r.un; omega⟩
theorem c5.deeper {k:Nat} {A:bS} (r:c5 (k + 1) A) (env:Env):c5 k (A.deeper env):=
 ⟨r.hd,by have:=r.dp; show A.depth + 1 + 3 * k + 5 < _; omega,by have:=r.un; show A.units + 3 + 16 * k + 200 < _; omega⟩
theorem z9 {A:bS} {C:aa} {us:List ae} {kw:List (Str×ae)}:(A.under (.builtin "type.__call__" ⟨.ref C :: us,kw⟩)).depth=A.depth + 1:=by
 first | rfl | simp [yA,Code.weight,Code.isCreation,Code.isGuard,Code.isCaller,Code.frames,zN,guardIds]
theorem Aa {A:bS} {C:aa} {us:List ae} {kw:List (Str×ae)}:(A.under (.builtin "type.__call__" ⟨.ref C :: us,kw⟩)).units=A.units + 1:=by
 first | rfl | simp [yA,Code.cUnits,Code.frames,zN]
theorem c5.make {k:Nat} {A:bS} (r:c5 (k + 1) A) (C:aa) (us:List ae) (kw:List (Str×ae)):c5 k (A.under (.builtin "type.__call__" ⟨.ref C :: us,kw⟩)):=
 ⟨r.hd,by have:=r.dp; rw [z9]; omega,by have:=r.un; rw [Aa]; omega⟩
theorem c5.depth {k:Nat} {A:bS} (r:c5 k A):A.depth < recursionLimit:=by have:=r.dp; omega
theorem c5.units {k:Nat} {A:bS} (r:c5 k A):A.units + 64 < eO:=by have:=r.un; omega
def Ab:TA:=fun _ H Q=>Q [] H
def nI (ta:TE) (tr:TA):TA:=fun σ H Q=>ta σ H fun x H1=>tr σ H1 fun xs H2=>Q (x :: xs) H2
section
variable {X:Cx} {e:cM} {es:List cM} {te:TE} {t:TA} {pos:Pos}
theorem ai:PA X [] Ab:=fun _ _ _ _ H Q I h=>Calls.spliced_nil ⟨[],H,I,.nil,h⟩
theorem ao (ha:PE X e te) (hr:PA X es t) (hs:cw (e :: es) X.env=(false,fc e X.env) :: cw es X.env:=by rfl):PA X (e :: es) (nI te t):=by
 intro pos pins s σ H Q I h;rw [hs];show aU _ _ (spliced ((false,fc e X.env) :: ia pos (cw es X.env))) _ _ s;refine Calls.spliced_cons (thn (ha pins s σ H _ I h) fun u s1 ⟨x,H1,I1,r1,q1⟩=>?_);exact thn (hr pos pins s1 σ H1 _ I1 q1) fun us s2 ⟨xs,H2,I2,r2,q2⟩=>⟨x :: xs,H2,I2,.cons r1 r2,q2⟩
def tTup (t:TA):TE:=fun σ H Q=>t σ H fun xs H1=>xs.length<=aB/\∀ p,H1 p=none->Q (.ref p) (upd H1 p (.tup xs))
def tLst (t:TA):TE:=fun σ H Q=>t σ H fun xs H1=>xs.length<=aB/\∀ p,H1 p=none->Q (.ref p) (upd H1 p (.lst xs))
theorem dR {x1} (h:PA X es t):PE X (.Tuple es x1 pos) (tTup t):=by
 intro pins s σ H Q I hq;refine wpAny_Tuple_spliced (thn (h pos pins s σ H _ I hq) fun us s1 ⟨xs,H1,I1,r,z,q⟩=>⟨by rw [<- r.length]; exact z,?_⟩);have hf:H1 s1.heap.objs.size=none:=I1.hok.fresh (aC _);refine ⟨.ref s1.heap.objs.size,upd H1 s1.heap.objs.size (.tup xs),I1.laid (t':=s1.toks) (fun b u e=>aI _ e) (aC _) ?_,rfl,q _ hf⟩;exact ⟨z,us,r,⟨_,cj _ rfl,rfl,_,rfl⟩⟩
theorem eS (h:PA X es t):PE X (.List es pos) (tLst t):=by
 intro pins s σ H Q I hq;refine wpAny_List_spliced (thn (h pos pins s σ H _ I hq) fun us s1 ⟨xs,H1,I1,r,z,q⟩=>⟨by rw [<- r.length]; exact z,?_⟩);have hf:H1 s1.heap.objs.size=none:=I1.hok.fresh (aC _);refine ⟨.ref s1.heap.objs.size,upd H1 s1.heap.objs.size (.lst xs),I1.laid (t':=s1.toks) (fun b u e=>aI _ e) (aC _) ?_,rfl,q _ hf⟩;exact ⟨z,us,0,r,cj _ rfl⟩
end
abbrev Sp:=List V->Hp->VK->XK->Prop
abbrev CXT:=List Env->Hp->ak->XK->ae->ak->Prop
structure xt (P:aJ) (w:bJ) (K:af) (mg:Str->Option ae) (base:cu) (A:bS) (outer:List Env) (s:ak) (H:Hp):Prop where
 frames:A.frames=some outer
 mod:Mod K mg base
 bs:∀ b o,base.get? b=some o->s.heap.get? b=some o/\H b=none
 bsz:base.objs.size<=s.heap.objs.size
 funs:s.heap.FunFrames base outer
 frf:∀ b∈frs outer,H b=none
 hok:HOk P w H s.heap
 bare:oj s.gens
def CE (outer:List Env) (P:aJ) (w:bJ) (H:Hp) (s:ak) (Q:VK) (u:ae) (s':ak):Prop:=
 ∃ v H',s'.os=s.os/\oj s'.gens/\Un (frs outer) [] H H' s.heap s'.heap/\HOk P w H' s'.heap/\RelV v u/\Q v H'
def CR (CX:CXT) (outer:List Env) (P:aJ) (w:bJ) (H:Hp) (s:ak) (Q:VK) (E:XK) (r:Ew) (s':ak):Prop:=
 match r with
 | .ok (.ret u)=>CE outer P w H s Q u s'
 | .ok _=>False
 | .error e=>CX outer H s E e s'
structure bA (P:aJ) (w:bJ) (K:af) (mg:Str->Option ae) (base:cu) (CX:CXT) (k:Nat) (f:aa) (fd:bR) (ps:List Str) (sp:Sp):Prop where
 len:∀ vs H Q E,sp vs H Q E->vs.length=ps.length
 run:∀ (A:bS) (outer:List Env) (s:ak) (H:Hp) (args:Args) (us:List ae) (vs:List V) (Q:VK) (E:XK),c5 k A->xt P w K mg base A outer s H->sV s fd args (ps.zip us)->cU vs us->sp vs H Q E ->
  lO (aX P w) A (.call (.ref f) args) (CR CX outer P w H s Q E) s
theorem xt.make {P:aJ} {w:bJ} {K:af} {mg:Str->Option ae} {base:cu} {A:bS} {outer:List Env} {s:ak} {H:Hp} (e:xt P w K mg base A outer s H) (C:aa) (us:List ae) (kw:List (Str×ae)) :
  xt P w K mg base (A.under (.builtin "type.__call__" ⟨.ref C :: us,kw⟩)) outer s H:=⟨by first | exact e.frames | (simpa [yA,Code.envs,zN,pushEnvs] using e.frames),e.mod,e.bs,e.bsz,e.funs,e.frf,e.hok,e.bare⟩
section
variable {X:Cx} {pins:List (aa×Obj)} {σ:St} {H:Hp} {s s':ak}
theorem Inv.env0 (I:Inv X pins σ H s):xt X.prog X.w X.K X.mg X.base X.A X.stack s H:=
 ⟨I.ok.frames,I.ok.mod,I.bs,cZ I.ok.bsz I.sz,I.stack,I.stkFree,I.hok,I.bare⟩
theorem Inv.after {Q:VK} {u:ae} (I:Inv X pins σ H s) (h:CE X.stack X.prog X.w H s Q u s'):EP X pins σ Q u s':=by
 obtain ⟨v,H',os,bare,un,hok,r,q⟩:=h;obtain ⟨hh,g,d,t,os'⟩:=s';obtain rfl:os'=s.os:=os;exact ⟨v,H',I.call (h':=hh) (g':=g) (d':=d) (t':=t) (ch:=[]) un hok bare (fun b z=>absurd z (by simp)),r,q⟩
end
def tCall (sp:Sp) (dvs:List V) (E:XK) (t:TA):TE:=fun σ H Q=>t σ H fun vs H1=>sp (vs++dvs) H1 Q E
def JP (C:aa) (m:Str) (sp:Sp) (dvs:List V) (E:XK) (ta:TE) (t:TA):TE:=fun σ H Q=>ta σ H fun x H1=>∃ a dx fs,x=.ref a/\H1 a=some (.ins C dx fs)/\fs.lookup m=none /\
 t σ H1 fun vs H2=>sp (x :: (vs++dvs)) H2 Q E
def JQ (C:aa) (sp:Sp) (dvs:List V) (E:XK) (t:TA):TE:=fun σ H Q=>t σ H fun vs H1=>∀ x dx,H1 x=none->H1 dx=none->dx≠x ->
 sp (.ref x :: (vs++dvs)) (upd (upd H1 dx (.own x)) x (.ins C dx [])) (fun v H2=>v=.non/\Q (.ref x) H2) E
def Binds (K:af) (fd:bR) (ps:List Str) (ds:List ae):Prop:=
 ∀ (s:ak) (us:List ae),K.In s.heap->(us++ds).length=ps.length->sV s fd ⟨us,[]⟩ (ps.zip (us++ds))
theorem Binds.all {K:af} {fd:bR} {ps:List Str} (h:∀ us:List ae,us.length=ps.length->Ac fd ⟨us,[]⟩=pure (ps.zip us)):Binds K fd ps []:=fun s us _ hl=>by
 rw [cE] at hl |-;exact .of_eq (h us hl)
def lB (CX:CXT) (X:Cx) (E:XK):Prop:=∀ (pins:List (aa×Obj)) (σ:St) (H:Hp) (s:ak) (e:ae) (s':ak),Inv X pins σ H s->CX X.stack H s E e s'->X.xe e s'
section
variable {X:Cx} {CX:CXT} {k:Nat} {f C:aa} {fd:bR} {ps:List Str} {sp:Sp} {dvs:List V} {ds:List ae} {E:XK} {x m:Str} {p pos apos:Pos} {e o:cM} {es:List cM} {ta:TE} {t:TA}
theorem Ad {pins:List (aa×Obj)} {σ:St} {H:Hp} {s:ak} {Q:VK} {us:List ae} {vs:List V} (F:bA X.prog X.w X.K X.mg X.base CX k f fd ps sp) (hr:c5 k X.A) (hb:Binds X.K fd ps ds) (hd:cU dvs ds) (hx:lB CX X E)
  (I:Inv X pins σ H s) (r:cU vs us) (h:sp (vs++dvs) H Q E):aU (aX X.prog X.w) X.A (vJ (.ref f) us) (EP X pins σ Q) X.xe s:=by
 have r2:cU (vs++dvs) (us++ds):=r.append hd;have hl:(us++ds).length=ps.length:=by rw [<- r2.length]; exact F.len _ _ _ _ h
 refine mK (jS (F.run X.A X.stack s H ⟨us,[]⟩ (us++ds) (vs++dvs) Q E hr I.env0 (hb s us I.kIn hl) r2 h) fun r s' hq=>?_)
 cases r with
 | error e=>exact hx pins σ H s e s' I hq
 | ok fl =>
  cases fl with
  | ret u=>exact I.after hq
  | next=>exact cH hq
  | brk=>exact cH hq
  | cont=>exact cH hq
theorem aK (F:bA X.prog X.w X.K X.mg X.base CX k f fd ps sp) (hr:c5 k X.A) (hg:Gl X x) (hm:X.mg x=some (.ref f)) (hk:gi X.K (.ref f)=true) (hb:Binds X.K fd ps ds) (hd:cU dvs ds) (hx:lB CX X E)
  (ha:PA X (e :: es) t) (hdb:(x == ("__debug__":Str))=false:=by decide) (he:cw (e :: es) X.env=(false,fc e X.env) :: cw es X.env:=by rfl) (hpl:(ia pos (cw es X.env)).any (·.1)=false:=by rfl) :
  PE X (.Call (.Name x p) (e :: es) [] pos) (tCall sp dvs E t):=by
 intro pins s σ H Q I h;refine ib (pC I hg hm ?_ hdb);refine iT (h₀:=X.base) I.ok.mod.kin hk (thn (ha pos pins s σ H _ I h) fun us s1 ⟨vs,H1,I1,r,q⟩=>⟨I1.kIn,?_⟩) he hpl;exact Ad F hr hb hd hx I1 r q
theorem fJ {pl:Sem Bool} (he:PE X o ta) (c:Cls X.K C) (hm:vK X.K C m f) (F:bA X.prog X.w X.K X.mg X.base CX k f fd ps sp) (hr:c5 k X.A) (hb:Binds X.K fd ps ds) (hd:cU dvs ds) (hx:lB CX X E) (ha:PA X (e :: es) t)
  (hst:cw (e :: es) X.env=(false,fc e X.env) :: cw es X.env:=by rfl) (hpl:(ia pos (cw es X.env)).any (·.1)=false:=by rfl)
  (ht:fc (.Call (.Attribute o m apos) (e :: es) [] pos) X.env=(do
   let ov <- fc o X.env
   sQ apos.atName
   let (f,first) <- om [ov] (j6 ov m pl)
   vL pos f first (ia pos (cw (e :: es) X.env)) (kJ pos (hZ [] X.env))):=by rfl) :
  PE X (.Call (.Attribute o m apos) (e :: es) [] pos) (JP C m sp dvs E ta t):=by
 intro pins s σ H Q I h;refine hJ (pl:=pl) (thn (he pins s σ H _ I h) fun u s1 ⟨x,H1,I1,rx,a,dx,fs,ex,ea,l,q⟩=>?_) ht;subst ex;obtain rfl:u=Value.ref a:=rx;refine mJ I1 ea c hm l ?_;refine iT (first:=[.ref a]) (h₀:=X.base) I.ok.mod.kin hm.kp (thn (ha pos pins s1 σ H1 _ I1 q) fun us s2 ⟨vs,H2,I2,r,q2⟩=>⟨I2.kIn,?_⟩) hst hpl;exact Ad (us:=.ref a :: us) (vs:=.ref a :: vs) F hr hb hd hx I2 (.cons rfl r) q2
theorem iK {pl:Sem Bool} (he:PE X o ta) (c:Cls X.K C) (hm:vK X.K C m f) (F:bA X.prog X.w X.K X.mg X.base CX k f fd ps sp) (hr:c5 k X.A) (hb:Binds X.K fd ps ds) (hd:cU dvs ds) (hx:lB CX X E)
  (ht:fc (.Call (.Attribute o m apos) [] [] pos) X.env=(do
   let ov <- fc o X.env
   sQ apos.atName
   let (f,first) <- om [ov] (j6 ov m pl)
   vL pos f first (ia pos (cw [] X.env)) (kJ pos (hZ [] X.env))):=by rfl) :
  PE X (.Call (.Attribute o m apos) [] [] pos) (JP C m sp dvs E ta Ab):=by
 intro pins s σ H Q I h;refine hJ (pl:=pl) (thn (he pins s σ H _ I h) fun u s1 ⟨x,H1,I1,rx,a,dx,fs,ex,ea,l,q⟩=>?_) ht;subst ex;obtain rfl:u=Value.ref a:=rx;refine mJ I1 ea c hm l ?_;exact zO (first:=[.ref a]) I1.kIn hm.kp (Ad (us:=[.ref a]) (vs:=[.ref a]) F hr hb hd hx I1 (.cons rfl .nil) q)
structure Mk (K:af) (C f:aa):Prop where
 makes:tI K C=true
 init:aQ K (.ref C) "__init__"=some (some (.ref f))
 fn:mI K (.ref f)=true
 kp:gi K (.ref C)=true
theorem EA {pins:List (aa×Obj)} {σ:St} {H:Hp} {s:ak} {Q:VK} {us:List ae} {vs:List V} (M:Mk X.K C f) (F:bA X.prog X.w X.K X.mg X.base CX k f fd ps sp) (hr:c5 (k + 1) X.A) (hb:Binds X.K fd ps ds) (hd:cU dvs ds)
  (hx:lB CX X E) (I:Inv X pins σ H s) (r:cU vs us)
  (h:∀ x dx,H x=none->H dx=none->dx≠x->sp (.ref x :: (vs++dvs)) (upd (upd H dx (.own x)) x (.ins C dx [])) (fun v H2=>v=.non/\Q (.ref x) H2) E) :
  aU (aX X.prog X.w) X.A (vJ (.ref C) us) (EP X pins σ Q) X.xe s:=by
 have hq:=h (s.heap.objs.size + 1) s.heap.objs.size (I.hok.fresh (fq _)) (I.hok.fresh (aC _)) (aO (uL _));have I2:=Inv.made (C:=C) I;have r2:cU (V.ref (s.heap.objs.size + 1) :: (vs++dvs)) (Value.ref (s.heap.objs.size + 1) :: (us++ds)):=.cons rfl (r.append hd);have hl:(Value.ref (s.heap.objs.size + 1) :: us++ds).length=ps.length:=by
  have e:=r2.length;rw [F.len _ _ _ _ hq] at e;exact e.symm
 refine mK (Eu (f:=f) I.kIn M.makes M.init (beq_iff_eq.mp M.fn) (jS (F.run _ X.stack _ _ ⟨Value.ref (s.heap.objs.size + 1) :: us,[]⟩ (Value.ref (s.heap.objs.size + 1) :: (us++ds)) _ _ E (hr.make C us [])
  (I2.env0.make C us []) (hb _ (Value.ref (s.heap.objs.size + 1) :: us) I2.kIn hl) r2 hq) fun r s' hq'=>?_))
 cases r with
 | error e=>exact hx pins σ _ _ e s' I2 hq'
 | ok fl =>
  cases fl with
  | ret u =>
   obtain ⟨v,H',I3,rv,ev,q3⟩:=I2.after hq';subst ev;exact ⟨rv,⟨V.ref (s.heap.objs.size + 1),H',I3,rfl,q3⟩⟩
  | next=>exact cH hq'
  | brk=>exact cH hq'
  | cont=>exact cH hq'
theorem jA (M:Mk X.K C f) (F:bA X.prog X.w X.K X.mg X.base CX k f fd ps sp) (hr:c5 (k + 1) X.A) (hg:Gl X x) (hm:X.mg x=some (.ref C)) (hb:Binds X.K fd ps ds) (hd:cU dvs ds) (hx:lB CX X E)
  (ha:PA X (e :: es) t) (hdb:(x == ("__debug__":Str))=false:=by decide) (he:cw (e :: es) X.env=(false,fc e X.env) :: cw es X.env:=by rfl) (hpl:(ia pos (cw es X.env)).any (·.1)=false:=by rfl) :
  PE X (.Call (.Name x p) (e :: es) [] pos) (JQ C sp dvs E t):=by
 intro pins s σ H Q I h;refine ib (pC I hg hm ?_ hdb);refine iT (h₀:=X.base) I.ok.mod.kin M.kp (thn (ha pos pins s σ H _ I h) fun us s1 ⟨vs,H1,I1,r,q⟩=>⟨I1.kIn,?_⟩) he hpl;exact EA M F hr hb hd hx I1 r q
end
section
variable {X:Cx} {CX:CXT} {k:Nat} {f C:aa} {fd:bR} {ps ks:List Str} {sp:Sp} {E:XK} {x m:Str} {p pos apos kpos:Pos} {e o:cM} {es:List cM} {kws:List M9} {te ta:TE} {t tk:TA} {nm:Option Str}
variable {g:List ae->List ae->List ae} {gV:List V->List V->List V}
end
structure bK (N P:List Str) (sc:kE):Prop where
 kind:sc.kind=.function:=by rfl
 co:sc.isCoroutine=false:=by rfl
 gen:sc.isGenerator=false:=by rfl
 nd:N.Nodup:=by decide +kernel
 pre:N.take P.length=P:=by rfl
 par:∀ x∈P,sc.names.lookup x=some .local\/sc.names.lookup x=some .cell:=by decide +kernel
 nofree:∀ y∈sc.names,y.2≠.free:=by decide +kernel
theorem wB {kindOf:Str->Option jT} {x:Str}:∀ {binds:List (Str×ae)} {m:Str->Option ae},(∀ v,(x,v)∉binds)->DI kindOf binds m x=m x
 | [],_,_=>rfl
 |(n,v) :: r,m,h=>by
  unfold DI;rw [wB fun w hw=>h w (ag _ hw)]
  split
  ·have:x≠n:=by rintro rfl; exact h v ax
   simp [this]
  ·rfl
theorem wC {kindOf:Str->Option jT} {x:Str}:∀ {binds:List (Str×ae)} {m:Str->Option ae},(∀ v,(x,v)∉binds)->DJ kindOf binds m x=m x
 | [],_,_=>rfl
 |(n,v) :: r,m,h=>by
  unfold DJ;rw [wC fun w hw=>h w (ag _ hw)]
  split
  ·rfl
  ·have:x≠n:=by rintro rfl; exact h v ax
   simp [this]
theorem wD {kindOf:Str->Option jT} {x:Str} {v:ae}:∀ {P:List Str} {vs:List ae} {i:Nat} {m:Str->Option ae},P.Nodup->P[i]?=some x->vs[i]?=some v->kindOf x=some .local ->
  DI kindOf (P.zip vs) m x=some v
 | [],_,_,_,_,h,_,_=>by simp at h
 | _ :: _,[],_,_,_,_,h,_=>by simp at h
 | p :: P,w :: vs,0,m,nd,h1,h2,hk=>by
  simp at h1 h2; subst h1; subst h2;show DI kindOf ((p,w) :: P.zip vs) m p=_;unfold DI;rw [wB fun v hv=>(cF.mp nd).1 (oG hv).1,if_pos hk];simp
 | p :: P,w :: vs,i + 1,m,nd,h1,h2,hk=>by
  show DI kindOf ((p,w) :: P.zip vs) m x=_;unfold DI;exact wD (i:=i) (cF.mp nd).2 (by simpa using h1) (by simpa using h2) hk
theorem wF {kindOf:Str->Option jT} {x:Str} {v:ae}:∀ {P:List Str} {vs:List ae} {i:Nat} {m:Str->Option ae},P.Nodup->P[i]?=some x->vs[i]?=some v->kindOf x≠some .local ->
  DJ kindOf (P.zip vs) m x=some v
 | [],_,_,_,_,h,_,_=>by simp at h
 | _ :: _,[],_,_,_,_,h,_=>by simp at h
 | p :: P,w :: vs,0,m,nd,h1,h2,hk=>by
  simp at h1 h2; subst h1; subst h2;show DJ kindOf ((p,w) :: P.zip vs) m p=_;unfold DJ;rw [wC fun v hv=>(cF.mp nd).1 (oG hv).1,if_neg hk];simp
 | p :: P,w :: vs,i + 1,m,nd,h1,h2,hk=>by
  show DJ kindOf ((p,w) :: P.zip vs) m x=_;unfold DJ;exact wF (i:=i) (cF.mp nd).2 (by simpa using h1) (by simpa using h2) hk
def start (N:List Str) (vs:List V):St:=vs.map some++cB (N.length - vs.length) none
def rO (CX:CXT) (P:aJ) (w:bJ) (K:af) (mg:Str->Option ae) (base:cu) (N:List Str) (qual:Str) (scope:kE) (f:aa) (cd:ae) (A:bS) (outer:List Env) (s:ak) (H:Hp) (E:XK):Cx where
 prog:=P
 w:=w
 K:=K
 mg:=mg
 base:=base
 A:=A.deeper (rP qual scope s.heap.objs.size f cd)
 N:=N
 s₀:=s
 H₀:=H
 env:=rP qual scope s.heap.objs.size f cd
 outer:=outer
 stack:=rP qual scope s.heap.objs.size f cd :: outer
 ex:=[]
 calm:=true
 fn:=fun _=>true
 pn:=[]
 xe:=fun e s'=>aU (aX P w) (A.deeper (rP qual scope s.heap.objs.size f cd)) (zP (rP qual scope s.heap.objs.size f cd) e) (fun _ s''=>CX outer H s E e s'') (fun e' s''=>CX outer H s E e' s'') s'
theorem yN {sc:kE} {n:Nat} {x:Str} (h:sc.names.lookup x=some .cell):∃ c,(DK n sc.names []).lookup x=some c:=by
 have q:=mO sc.names n [] (.inl h);exact Option.isSome_iff_exists.mp q
theorem wG {CX:CXT} {P:aJ} {w:bJ} {K:af} {mg:Str->Option ae} {base:cu} {N ps:List Str} {qual:Str} {scope:kE} {f:aa} {cd:ae} {A:bS} {outer:List Env} {s s1:ak} {H:Hp} {E:XK} {us:List ae} {vs:List V}
  (S:bK N ps scope) (hd:A.handled=none) (e0:xt P w K mg base A outer s H) (hl:vs.length=ps.length) (r:cU vs us)
  (x:InCallC s s.heap.objs.size (DI (rP qual scope s.heap.objs.size f cd).kindOf (ps.zip us) fun _=>none) (DK (s.heap.objs.size + 1) scope.names []) (DJ (rP qual scope s.heap.objs.size f cd).kindOf (ps.zip us) fun _=>none) s1) :
  Inv (rO CX P w K mg base N qual scope f cd A outer s H E) [] (start N vs) H s1:=by
 have hpl:ps.length<=N.length:=by have:=congrArg ja S.pre; rw [df] at this; omega
 obtain ⟨h1,tk,rfl,hk⟩:=x.done;have noA:∀ b:aa,b∉(rO CX P w K mg base N qual scope f cd A outer s H E).ex:=fun b z=>absurd (show b∈([]:List aa) from z) (by simp);refine ⟨⟨e0.mod,S.kind,rfl,rfl,aC _,fun y z c h1 h2=>?_,fun y hy=>?_,fun y c _ h=>?_,fun _=>hd,Around.frames_deeper e0.frames,.inr ⟨rfl,rfl⟩,fun b z=>absurd z (noA b),e0.bs,e0.bsz,fun b _ _=>noA b,fun b z=>absurd z (noA b),e0.funs,e0.frf⟩,
  rfl,e0.bare,Un.kept hk,⟨_,x.toInCall.ns,fun i y v h1 h2 h3=>?_⟩,fun y c h=>⟨_,x.cell y c h⟩,e0.hok.fresh (aC _),fun y c h=>?_,fun p hp=>absurd (show p∈([]:List (aa×Obj)) from hp) (by simp),e0.hok.kept hk,?_⟩
 ·exact name_of_addr x.apart (fK h1) (fK h2)
 ·have hy:scope.names.lookup y=some .cell\/scope.names.lookup y=some .free:=hy
  rcases hy with hy | hy
  ·exact yN hy
  ·exact absurd rfl (S.nofree _ (fK hy))
 ·exact kF (x.above y c (fK h))
 ·have hi:i < vs.length:=by
   unfold start at h2
   by_cases hi:i < vs.length
   ·exact hi
   ·rw [dX (by simpa using hi)] at h2;rw [nJ] at h2
    split at h2 <;> cases h2
  have ha:vs[i]?=some v:=by
   unfold start at h2;rw [ff (by simpa using hi),cI] at h2
   cases e:vs[i]? with
   | none=>rw [e] at h2; cases h2
   | some a=>rw [e] at h2; cases h2; rfl
  obtain ⟨u,hu,rv⟩:=r.get ha;have hp:ps[i]?=some y:=by
   rw [<- S.pre,yB (by omega)]; exact h1
  have ndP:ps.Nodup:=by rw [<- S.pre]; exact S.nd.sublist (lP _ _)
  refine ⟨u,rv,?_⟩
  rcases S.par y (bV hp) with k | k
  ·exact .inl ⟨k,wD ndP hp hu k⟩
  ·obtain ⟨c,e⟩:=yN (n:=s.heap.objs.size + 1) k;refine .inr ⟨.inl k,c,e,?_⟩;have q:=x.cell y c e;rw [wF ndP hp hu (by show scope.names.lookup y≠_; rw [k]; decide)] at q;exact q
 ·exact e0.hok.fresh (kF (x.above y c (fK h)))
 ·unfold start;show _=N.length;rw [aA,ar,jI];omega
theorem JR {CX:CXT} {P:aJ} {w:bJ} {K:af} {mg:Str->Option ae} {base:cu} {k:Nat} {f:aa} {name qual:Str} {params:Arguments} {body:List cV} {scope:kE} {dV kV doc pm cdv ct oc:ae} {an od:Option aa}
  {osl:Array (Option ae)} {N ps:List Str} {sp:Sp} (lk:K.lookup f=some ⟨oc,od,.func (eT name qual params body scope dV kV doc pm an cdv ct),osl⟩) (hcd:jb K cdv qual=true) (S:bK N ps scope)
  (len:∀ vs H Q E,sp vs H Q E->vs.length=ps.length)
  (hbody:∀ (A:bS) (outer:List Env) (s:ak) (H:Hp) (vs:List V) (Q:VK) (E:XK),c5 k (A.deeper (rP qual scope s.heap.objs.size f cdv))->sp vs H Q E ->
   ∃ t,PSs (rO CX P w K mg base N qual scope f cdv A outer s H E) body t/\t {nx:=fun _ H'=>Q .non H',rt:=Q} (start N vs) H) :
  bA P w K mg base CX (k + 1) f (eT name qual params body scope dV kV doc pm an cdv ct) ps sp:=by
 refine ⟨len,fun A outer s H args us vs Q E hr e0 hb r hsp=>?_⟩;have hl:=len _ _ _ _ hsp;have KX:K.In s.heap:=e0.mod.kin.keeps fun b o e=>(e0.bs b o e).1;have lim:s.heap.NoLimit:=e0.mod.nolimit.keeps fun b o e=>(e0.bs b o e).1;have hkind:∀ y∈ps.zip us,scope.names.lookup y.1=some .local\/(scope.names.lookup y.1=some .cell/\((DK (s.heap.objs.size + 1) scope.names []).lookup y.1).isSome=true):=fun ⟨n,v⟩ hy=>by
  rcases S.par n (oG hy).1 with q | q
  ·exact .inl q
  ·exact .inr ⟨q,mO _ _ _ (.inl q)⟩
 refine Hw hr.depth (KX _ _ lk) rfl S.co S.gen rfl (Ae KX hcd) (hb _ _ _ _ ?_);refine Af S.kind hkind fun env he s1 x=>?_;subst he;refine ⟨lim.keeps x.toInCall.keep,codeAny_func ?_⟩;obtain ⟨t,ht,hq⟩:=hbody A outer s H vs Q E (hr.deeper _) hsp;have I:Inv (rO CX P w K mg base N qual scope f cdv A outer s H E) [] (start N vs) H s1:=wG S hr.hd e0 hl r x;refine d7 (ht [] s1 (start N vs) H _ I hq) (fun fl s' hs=>?_) fun e s' hs=>hs;have fin:∀ {σ':St} {H':Hp} {v:V} {u:ae},Inv (rO CX P w K mg base N qual scope f cdv A outer s H E) [] σ' H' s'->RelV v u->Q v H'->CE outer P w H s Q u s':=
  fun {σ' H' v u} J rv q=>⟨v,H',J.os,J.bare,J.base,J.hok,rv,q⟩
 cases fl with
 | ret u =>
  obtain ⟨v,σ',H',J,rv,q⟩:=hs;exact fin J rv q
 | next =>
  obtain ⟨σ',H',J,q⟩:=hs;exact fin (v:=V.non) (u:=Value.none) J rfl q
 | brk =>
  obtain ⟨_,_,_,q⟩:=hs;exact cH q
 | cont =>
  obtain ⟨_,_,_,q⟩:=hs;exact cH q
section
variable {X:Cx} {x:Str} {p pos:Pos} {e:cM} {es:List cM} {t:TA} {id T:String} {r:List V->Hp->VK->Prop}
def tCB (r:List V->Hp->VK->Prop) (t:TA):TE:=fun σ H Q=>t σ H fun vs H1=>r vs H1 Q
theorem cL (hc:jH X (.builtin id) r) (hg:Gl X x) (hm:X.mg x=none) (hv:eE x=some (.builtin id)) (ha:PA X (e :: es) t) (hn:x≠"__name__":=by decide) (hdb:(x == ("__debug__":Str))=false:=by decide)
  (he:cw (e :: es) X.env=(false,fc e X.env) :: cw es X.env:=by rfl) (hpl:(ia pos (cw es X.env)).any (·.1)=false:=by rfl):PE X (.Call (.Name x p) (e :: es) [] pos) (tCB r t):=by
 intro pins s σ H Q I h;refine ib (rE I hg hm hv ?_ hn hdb);exact PyProof.Rows.callWith_builtin1 (thn (ha pos pins s σ H _ I h) fun us s1 ⟨vs,H1,I1,r1,q1⟩=>hc pins s1 σ H1 vs us Q I1 r1 q1) he hpl
theorem gL (hc:jH X (.type T) r) (hg:Gl X x) (hm:X.mg x=none) (hv:eE x=some (.type T)) (ha:PA X (e :: es) t) (hn:x≠"__name__":=by decide) (hdb:(x == ("__debug__":Str))=false:=by decide)
  (he:cw (e :: es) X.env=(false,fc e X.env) :: cw es X.env:=by rfl) (hpl:(ia pos (cw es X.env)).any (·.1)=false:=by rfl):PE X (.Call (.Name x p) (e :: es) [] pos) (tCB r t):=by
 intro pins s σ H Q I h;refine ib (rE I hg hm hv ?_ hn hdb);exact jz (thn (ha pos pins s σ H _ I h) fun us s1 ⟨vs,H1,I1,r1,q1⟩=>hc pins s1 σ H1 vs us Q I1 r1 q1) he hpl
end
end L2
namespace HT
open PySem PyProof.Rows
def lexLt:List Int->List Int->Bool
 | [],[]=>false
 | [],_ :: _=>true
 | _ :: _,[]=>false
 | x :: xs,y :: ys=>if x=y then lexLt xs ys else decide (x < y)
theorem j7 (x y:Int) (xs ys:List Int):lexLt (x :: xs) (y :: ys)=if x=y then lexLt xs ys else decide (x < y):=rfl
theorem p9:lexLt [] []=false:=rfl
theorem oH (y:Int) (ys:List Int):lexLt [] (y :: ys)=true:=rfl
theorem oI (x:Int) (xs:List Int):lexLt (x :: xs) []=false:=rfl
theorem yO (A:bS) (s:ak) (a:Int) (t:Tok) (c:Int) (u:Tok):∃ e,vN A s (.int a t) (.int c u) e/\(e=true↔a=c):=
 ⟨(a == c),pI a t c u,by simp⟩
theorem EB (A:bS) (s:ak) (a:Int) (t:Tok) (c:Int) (u:Tok) (prog:aJ) (w:bJ) (E:ae->ak->Prop) (Q:ae->ak->Prop) (h:Q (.bool (decide (a < c))) s) :
  aU (aX prog w) A (rQ .Lt (.int a t) (.int c u)) Q E s:=
 (PyProof.Rows.lt_int h:aU (aX prog w) A (dv .Lt (.int a t) (.int c u)) Q E s)
section
open PySem.SeqAt
open PySem.AutoSeq1 (wpAny_loadPart')
open PySem.MeetsSeq PySem.MeetsSeq2 PySem.MeetsSeq3
theorem vO (l b:aa) (items items2:Array ae) (n n2:Nat) (dd dd2:Option aa) (sl sl2:Array (Option ae)) (ns ms:List Int) (hi:eF items.toList ns) (hj:eF items2.toList ms) :
  Meets (gX.«tuple.__lt__» ⟨[.ref l,.ref b],[]⟩)
   (fun _ R s=>s.heap.get? l=some {cls:=.type "tuple",dict:=dd,data:=.seq items n,slots:=sl}/\s.heap.get? b=some {cls:=.type "tuple",dict:=dd2,data:=.seq items2 n2,slots:=sl2} /\
    R (.ok (.ret (.bool (lexLt ns ms)))) s):=
 .of_wp fun prog w A R s h=>by
  obtain ⟨hp,g,d,tk,os⟩:=s; obtain ⟨hl,hb,h⟩:=h;have f2:=kP;have z1:items.size=ns.length:=by rw [<- hi.length]; simp
  have z2:items2.size=ms.length:=by rw [<- hj.length]; simp
  wp_walk using dE hl,dE hb,pZ _ (fun rest b s'=>b.1=none/\s'=⟨hp,g,d,tk,os⟩/\∃ (vs ws:List ae) (ns' ms':List Int),rest=vs.zip ws /\
   eF vs ns'/\eF ws ms'/\ns'.length + items2.size=ms'.length + items.size/\R (.ok (.ret (.bool (lexLt ns' ms')))) ⟨hp,g,d,tk,os⟩) _
  case turn =>
   rintro ⟨y,x⟩ rest b s' ⟨hb',rfl,vs,ws,ns',ms',hz,hvi,hwi,hlen,hR⟩
   cases hvi with
   | nil=>rw [EC] at hz; cases hz
   | cons a t hvi' =>
    cases hwi with
    | nil=>rw [DQ] at hz; cases hz
    | cons c u hwi' =>
     rw [gm] at hz;injection hz with hyx hrest;injection hyx with hy hx;subst hy hx;rw [j7] at hR;simp only [aT] at hlen;obtain ⟨e,he,hiff⟩:=yO A.in1 ⟨hp,g,d,tk,os⟩ a t c u;refine aq (he prog w _ _ ?_)
     cases e with
     | true =>
      rw [if_pos (hiff.mp rfl)] at hR
      wp_walk
      exact ⟨rfl,rfl,_,_,_,_,hrest,hvi',hwi',by omega,hR⟩
     | false =>
      rw [if_neg (fun q=>absurd (hiff.mpr q) aY)] at hR;have hri:=EB A.in1 ⟨hp,g,d,tk,os⟩ a t c u prog w
      wp_walk using hri
      exact ⟨_,rfl,by simpa using hR⟩
  case fin =>
   rintro ⟨b1,b2⟩ s' ⟨hb',rfl,vs,ws,ns',ms',hz,hvi,hwi,hlen,hR⟩;simp only at hb';subst hb';have hv:lexLt ns' ms'=decide (items.size < items2.size):=by
    cases hvi with
    | nil =>
     cases hwi with
     | nil =>
      simp only [cK] at hlen;rw [p9];exact (decide_eq_false (by omega)).symm
     | cons c u hw =>
      simp only [cK,aT] at hlen;rw [oH];exact (decide_eq_true (by omega)).symm
    | cons a t hv =>
     cases hwi with
     | nil =>
      simp only [cK,aT] at hlen;rw [oI];exact (decide_eq_false (by omega)).symm
     | cons c u hw =>
      rw [gm] at hz
      cases hz
   rw [hv] at hR
   wp_walk
   exact ⟨_,rfl,by simpa [pJ] using hR⟩
  case h =>
   exact ⟨rfl,rfl,items.toList,items2.toList,ns,ms,rfl,hi,hj,by omega,h⟩
end
section
variable {prog:aJ} {w:bJ} {A:bS} {E:ae->ak->Prop} {s:ak}
theorem lt_tupInts {l b:aa} {items items2:Array ae} {ns ms:List Int} {Q:ae->ak->Prop} (hl:tS s.heap l items) (hb:tS s.heap b items2) (hi:eF items.toList ns) (hj:eF items2.toList ms)
  (hu:A.units < eO) (h:Q (.bool (lexLt ns ms)) s):aU (aX prog w) A (dv .Lt (.ref l) (.ref b)) Q E s:=by
 obtain ⟨⟨cls,dd,data,sl⟩,ho,hc,n,hd⟩:=id hl;obtain ⟨⟨cls2,dd2,data2,sl2⟩,ho2,hc2,n2,hd2⟩:=id hb;simp only at hc hd hc2 hd2;subst hc hd hc2 hd2;exact qq (op:=.Lt) ⟨_,ho,rfl⟩ ⟨_,ho2,rfl⟩ PySem.F.slot_tuple_lt PySem.F.entry_tuple_lt (PySem.F.args_tuple_lt_2 _ _) (vO l b items items2 n n2 dd dd2 sl sl2 ns ms hi hj)
  ⟨ho,ho2,show Value.bool (lexLt ns ms)≠Value.notImplemented/\Q (.bool (lexLt ns ms)) s from ⟨(fun x=>nomatch x),h⟩⟩ hu
theorem cat_tup {t b:aa} {vs ws:List ae} {Q:ae->ak->Prop} (ht:tS s.heap t vs.toArray) (hb:tS s.heap b ws.toArray) (hv:vs≠[])
  (h1:ws=[]->Q (.ref t) s) (h2:ws≠[]->Q (.ref s.heap.objs.size) {s with heap:=s.heap.push {cls:=.type "tuple",data:=.seq (vs++ws).toArray}})
  (hsz:vs.length + ws.length<=aB):aU (aX prog w) A (g9 .Add (.ref t) (.ref b)) Q E s:=by
 obtain ⟨⟨cls,dd,data,sl⟩,ho,hc,n,hd⟩:=id ht;obtain ⟨⟨cls2,dd2,data2,sl2⟩,ho2,hc2,n2,hd2⟩:=id hb;simp only at hc hd hc2 hd2;subst hc hd hc2 hd2;have e:vs.toArray++ws.toArray=(vs++ws).toArray:=by simp
 by_cases hw:ws=[]
 ·exact concat_meets ⟨_,ho,rfl⟩ ⟨_,ho2,rfl⟩ noFill_tuple_add seq_tuple_add xu wH (vP _ _)
   (tuple_addW1 t b vs.toArray ws.toArray n n2 dd dd2 sl sl2 (by simpa using hv) (by simp [hw])) ⟨ho,ho2,h1 hw⟩
 ·refine concat_meets ⟨_,ho,rfl⟩ ⟨_,ho2,rfl⟩ noFill_tuple_add seq_tuple_add xu wH (vP _ _)
   (tuple_addW2 t b vs.toArray ws.toArray n n2 dd dd2 sl sl2 (by simpa using hv) (by simpa using hw) (by rw [aG,aG]; exact hsz)) ⟨ho,ho2,?_⟩
  rw [e];exact h2 hw
def sIx (n d:Nat):Option Int->Nat
 | none=>d
 | some v=>if v < 0 then (v + (n:Int)).toNat else min v.toNat n
theorem sIx_none (n d:Nat):sIx n d none=d:=rfl
theorem sIx_nat (n d k:Nat):sIx n d (some (k:Int))=min k n:=by
 show (if (k:Int) < 0 then ((k:Int) + (n:Int)).toNat else min (k:Int).toNat n)=min k n;rw [if_neg (by omega),tJ]
end
end HT
namespace L2
open PySem PySem.Spec PyProof.Rows
abbrev TO:=St->Hp->(Option Int->Hp->Prop)->Prop
def PO (X:Cx) (e:Option cM) (t:TO):Prop:=
 ∀ (pins:List (aa×Obj)) (s:ak) (σ:St) (H:Hp) (Q:Option Int->Hp->Prop),Inv X pins σ H s->t σ H Q ->
  aU (aX X.prog X.w) X.A (evalPart e X.env) (fun u s'=>∃ o H',Inv X pins σ H' s'/\IsPart u o/\Q o H') X.xe s
def HV:TO:=fun _ H Q=>Q none H
def tPart (t:TE):TO:=fun σ H Q=>t σ H fun x H1=>∃ i,x=.int i/\Q (some i) H1
theorem intsAre_of {ns:List Int}:∀ {us:List ae},cU (ns.map V.int) us->eF us ns:=by
 induction ns with
 | nil=>intro us r; rw [sW] at r; cases r; exact .nil
 | cons n ns ih =>
  intro us r;rw [bQ] at r
  cases r with
  | cons r1 r2 =>
   obtain ⟨t,e⟩:=r1;subst e;exact .cons n t (ih r2)
section
variable {X:Cx} {e:cM} {te:TE} {lo hi:Option cM} {tl th:TO} {pos p2:Pos}
theorem tU:PO X none HV:=by
 intro pins s σ H Q I h;rw [evalPart_none];exact aV ⟨none,H,I,.none,h⟩
theorem tV (h:PE X e te):PO X (some e) (tPart te):=by
 intro pins s σ H Q I hw;rw [evalPart_some];refine thn (h pins s σ H _ I hw) fun u s1 ⟨x,H1,I1,r1,q1⟩=>?_;obtain ⟨i,rfl,q⟩:=q1;obtain ⟨t,rfl⟩:=r1;exact ⟨some i,H1,I1,.int i t,q⟩
def SlR (X:Cx) (r:V->Option Int->Option Int->Hp->VK->Prop):Prop:=
 ∀ (pins:List (aa×Obj)) (s:ak) (σ:St) (H:Hp) (x:V) (v vl vu:ae) (lo hi:Option Int) (sl:aa) (Q:VK),Inv X pins σ H s->RelV x v->s.heap.IsSliceOf sl vl vu .none->IsPart vl lo->IsPart vu hi->r x lo hi H Q ->
  ∃ T id,Le (.type T) "__getitem__"=pure (some (.builtin id))/\s.TypeIs v T/\aU (aX X.prog X.w) X.A (zQ v (.ref sl)) (EP X pins σ Q) X.xe s
def tSl (r:V->Option Int->Option Int->Hp->VK->Prop) (te:TE) (tl th:TO):TE:=fun σ H Q=>te σ H fun x H1=>tl σ H1 fun l H2=>th σ H2 fun u H3=>r x l u H3 Q
theorem qL {r:V->Option Int->Option Int->Hp->VK->Prop} (hr:SlR X r) (he:PE X e te) (hl:PO X lo tl) (hu:PO X hi th):PE X (.Subscript e (.Slice lo hi none p2) pos) (tSl r te tl th):=by
 intro pins s σ H Q I h;refine Lg (thn (he pins s σ H _ I h) fun v s1 ⟨x,H1,I1,r1,q1⟩=>?_);refine wpAny_Slice (thn (hl pins s1 σ H1 _ I1 q1) fun vl s2 ⟨l,H2,I2,pl,q2⟩=>thn (hu pins s2 σ H2 _ I2 q2) fun vu s3 ⟨u,H3,I3,pu,q3⟩=>?_);rw [evalPart_none];refine aV ?_;have I4:Inv X pins σ H3 {s3 with heap:=s3.heap.push {cls:=.type "slice",data:=.fields #[vl,vu,.none]}}:=I3.kept (t':=s3.toks) fun b ob q=>aI _ q;obtain ⟨T,id,hT,ht,hg⟩:=hr pins {s3 with heap:=s3.heap.push {cls:=.type "slice",data:=.fields #[vl,vu,.none]}} σ H3 x v vl vu l u s3.heap.objs.size Q I4 r1 (Na ..) pl pu q3;show aU (aX X.prog X.w) X.A (Ct e (.Slice lo hi none p2) v (.ref s3.heap.objs.size)) (EP X pins σ Q) X.xe {s3 with heap:=s3.heap.push {cls:=.type "slice",data:=.fields #[vl,vu,.none]}};exact tail_any (ops:=[.ref s3.heap.objs.size,v]) ht hT hg (by with_unfolding_all rfl)
def lC (xs:List V) (lo hi:Option Int):List V:=(xs.drop (HT.sIx xs.length 0 lo)).take (HT.sIx xs.length xs.length hi - HT.sIx xs.length 0 lo)
theorem sY (xs:List V) (lo hi:Option Int):(lC xs lo hi).length<=xs.length:=by
 unfold lC;rw [df,nU];omega
def rCatT (K:af):R2:=fun x y H Q=>∃ a b xs ys,x=.ref a/\y=.ref b/\SqT K H a xs/\SqT K H b ys/\xs≠[]/\xs.length + ys.length<=aB /\
 (ys=[]->Q (.ref a) H)/\(ys≠[]->∀ p,H p=none->Q (.ref p) (upd H p (.tup (xs++ys))))
theorem cU.nil_iff {xs:List V} {us:List ae} (r:cU xs us):us=[]↔xs=[]:=by
 cases r with
 | nil=>simp
 | cons _ _=>simp
theorem HW:OpR X (g9 .Add) (rCatT X.K):=by
 intro pins s σ H x y v u Q I rx ry h;obtain ⟨a,b,xs,ys,rfl,rfl,ha,hb,hx,hz,q1,q2⟩:=h
 cases rx
 cases ry;obtain ⟨its,r1,p1,_⟩:=I.tuple ha;obtain ⟨its2,r2,p2,_⟩:=I.tuple hb;refine HT.cat_tup p1 p2 (fun z=>hx (r1.nil_iff.mp z)) (fun z=>⟨.ref a,H,I,rfl,q1 (r2.nil_iff.mp z)⟩) (fun z=>?_) (by rw [<- r1.length,<- r2.length]; exact hz);refine ⟨.ref s.heap.objs.size,_,I.laid (t':=s.toks) (o:=.tup (xs++ys)) (fun b ob q=>aI _ q) (aC _) ?_,rfl,q2 (fun w=>z (r2.nil_iff.mpr w)) _ (I.hok.fresh (aC _))⟩;exact ⟨by rw [aA]; exact hz,_,r1.append r2,IsTup.new _ _⟩
end
def ixN (n:Nat) (i:Int):Option Nat:=if 0<=i then (if i < n then some i.toNat else none) else if -(n:Int)<=i then some (i + n).toNat else none
def atI {α:Type} (xs:List α) (i:Int):Option α:=(ixN xs.length i).bind fun j=>xs[j]?
theorem xw {n:Nat} {i:Int} {j:Nat} (h:ixN n i=some j):seqIndex? i n=some j/\j < n/\-(n:Int)<=i/\i < n:=by
 unfold ixN at h
 by_cases h0:0<=i
 ·rw [if_pos h0] at h
  by_cases h1:i < n
  ·rw [if_pos h1] at h;have e:i.toNat=j:=dH h;exact ⟨by rw [HX h0 h1,e],by omega,by omega,h1⟩
  ·rw [if_neg h1] at h; cases h
 ·rw [if_neg h0] at h
  by_cases h1:-(n:Int)<=i
  ·rw [if_pos h1] at h;have e:(i + n).toNat=j:=dH h;exact ⟨by rw [ED (by omega) h1,e],by omega,h1,by omega⟩
  ·rw [if_neg h1] at h; cases h
theorem xx {α:Type} {xs:List α} {i:Int} {v:α} (h:atI xs i=some v):∃ j,seqIndex? i xs.length=some j/\xs[j]?=some v/\j < xs.length/\-(xs.length:Int)<=i/\i < xs.length:=by
 unfold atI at h
 cases e:ixN xs.length i with
 | none=>rw [e] at h; cases h
 | some j =>
  rw [e] at h;obtain ⟨h1,h2,h3,h4⟩:=xw e;exact ⟨j,h1,h,h2,h3,h4⟩
theorem jB {α:Type} {xs:List α} {j:Nat} {v:α} (h:xs[j]?=some v):atI xs (j:Int)=some v:=by
 have hj:j < xs.length:=(aE.mp h).1;have e:ixN xs.length (j:Int)=some j:=by
  unfold ixN;rw [if_pos (by omega),if_pos (by omega)]; simp
 unfold atI; rw [e]; exact h
def HY (b:cM):Prop:=∀ o i,yC b false o i=operate [o,i] (zQ o i)
def IxR (X:Cx) (r:R2):Prop:=
 ∀ (value slice:cM) (pins:List (aa×Obj)) (s:ak) (σ:St) (H:Hp) (x y:V) (v u:ae) (Q:VK),Inv X pins σ H s->RelV x v->RelV y u->r x y H Q ->
  yC slice false v u=operate [v,u] (zQ v u)->aU (aX X.prog X.w) X.A (Ct value slice v u) (EP X pins σ Q) X.xe s
def MtR (X:Cx) (id:String) (r:V->List V->Hp->VK->Prop):Prop:=
 ∀ (pins:List (aa×Obj)) (s:ak) (σ:St) (H:Hp) (x:V) (xs:List V) (v:ae) (us:List ae) (Q:VK),Inv X pins σ H s->RelV x v->cU xs us->r x xs H Q ->
  aU (aX X.prog X.w) X.A (vJ (.builtin id) (v :: us)) (EP X pins σ Q) X.xe s
section
variable {X:Cx} {a b:cM} {ta tb:TE} {pos:Pos}
theorem bU {r:R2} (hr:IxR X r) (ha:PE X a ta) (hb:PE X b tb) (hs:HY b):PE X (.Subscript a b pos) (tOp r ta tb):=by
 intro pins s σ H Q I h;exact Lg (La ha hb I h fun v u s2 x y H2 I2 rx ry q=>hr a b pins s2 σ H2 x y v u Q I2 rx ry q (hs _ _))
inductive RIxL (K:af) (x y:V) (H:Hp) (Q:VK):Prop where
 | mk (p:aa) (xs:List V) (i:Int) (v:V) (hx:x=.ref p) (hy:y=.int i) (s:SqL K H p xs) (e:atI xs i=some v) (q:Q v H):RIxL K x y H Q
def Lh (K:af):R2:=fun x y H Q=>RIxL K x y H Q
inductive RIxT (K:af) (x y:V) (H:Hp) (Q:VK):Prop where
 | mk (p:aa) (xs:List V) (i:Int) (v:V) (hx:x=.ref p) (hy:y=.int i) (s:SqT K H p xs) (e:atI xs i=some v) (q:Q v H):RIxT K x y H Q
def rIxT (K:af):R2:=fun x y H Q=>RIxT K x y H Q
def rIxS:R2:=fun x y H Q=>∃ z i c,x=.str z/\y=.int i/\z.length<=aB/\atI z.cps.toList i=some c/\Q (.str ⟨#[c]⟩) H
theorem dI:IxR X (Lh X.K):=by
 intro value slice pins s σ H x y v u Q I rx ry h hs;obtain ⟨p,xs,i,z,rfl,rfl,hq,he,q⟩:=h
 cases rx;obtain ⟨t,rfl⟩:=ry;obtain ⟨its,r,pl,hz⟩:=I.list hq;obtain ⟨j,h1,h2,h3,h4,h5⟩:=xx he;obtain ⟨w,ew,rw'⟩:=r.get h2;have hl:=r.length;have hn:=rL;have fin:EP X pins σ Q w s:=⟨z,H,I,rw',q⟩
 by_cases h0:0<=i
 ·have hj:i.toNat=j:=by
   rw [HX h0 h5] at h1;exact dH h1
  exact item_listR pl.isList h0 (by omega) (by rw [hj]; simpa using ew) fin hs
 ·have hj:(i + (its.toArray.size:Int)).toNat=j:=by
   rw [ED (by omega) h4] at h1;rw [aG,<- hl];exact dH h1
  exact EE (x:=w) pl.isList.typeIs Nb.lookup
   (wpAny_getItem_list_neg (Q:=fun r s'=>r=w/\EP X pins σ Q r s') pl.isList (by omega) (by rw [aG] <;> omega) (by omega) (by rw [hj]; simpa using ew) ⟨rfl,fin⟩) hs
theorem cz:IxR X (rIxT X.K):=by
 intro value slice pins s σ H x y v u Q I rx ry h hs;obtain ⟨p,xs,i,z,rfl,rfl,hq,he,q⟩:=h
 cases rx;obtain ⟨t,rfl⟩:=ry;obtain ⟨its,r,pl,hz⟩:=I.tuple hq;obtain ⟨j,h1,h2,h3,h4,h5⟩:=xx he;obtain ⟨w,ew,rw'⟩:=r.get h2;have hl:=r.length;have hn:=rL;have fin:EP X pins σ Q w s:=⟨z,H,I,rw',q⟩;exact EE (x:=w) pl.typeIs slot_tuple_getitem.lookup
  (getItem_tuple (j:=j) (Q:=fun r s'=>r=w/\EP X pins σ Q r s') pl (by omega) (by omega) (by rw [aG,<- hl]; exact h1) (by simpa using ew) ⟨rfl,fin⟩) hs
theorem EF:IxR X rIxS:=by
 intro value slice pins s σ H x y v u Q I rx ry h hs;obtain ⟨z,i,c,rfl,rfl,hz,he,q⟩:=h;obtain ⟨t,rfl⟩:=rx;obtain ⟨t',rfl⟩:=ry;obtain ⟨j,h1,h2,h3,h4,h5⟩:=xx he;have hl:z.cps.toList.length=z.length:=by simp [Str.length]
 rw [hl] at h1 h4 h5;have hn:=rL;exact tail_any (typeIs_str s z t) slot_str_getitem.lookup (getItem_str (c:=c) (by
  have e1:decide (i < -(2 ^ 63:Int))=false:=decide_eq_false (by omega);have e2:decide (i ≥ 2 ^ 63)=false:=decide_eq_false (by omega);rw [e1,e2,Bool.or_false]) (by rw [h1]; simpa using h2) ⟨.str ⟨#[c]⟩,H,I.tok _,⟨_,rfl⟩,q⟩) hs
theorem Ag (its:List ae) (n j:Nat) (u:ae):cX (·.setIfInBounds j u) {cls:=.type "list",data:=.seq its.toArray n}={cls:=.type "list",data:=.seq (its.set j u).toArray n}:=by
 simp [cX]
theorem Inv.lst {pins:List (aa×Obj)} {σ:St} {H:Hp} {s:ak} {p:aa} {xs:List V} (I:Inv X pins σ H s) (h:H p=some (.lst xs)) :
  ∃ (its:List ae) (n:Nat),cU xs its/\s.heap.get? p=some {cls:=.type "list",data:=.seq its.toArray n}/\xs.length<=aB:=by
 obtain ⟨z,its,n,r,e⟩:=I.hok p _ h;exact ⟨its,n,r,e,z⟩
theorem Inv.lstUpd {pins:List (aa×Obj)} {σ:St} {H:Hp} {s:ak} {p:aa} {xs ys:List V} {its its':List ae} {n n':Nat} {f:Obj->Obj} (I:Inv X pins σ H s) (h:H p=some (.lst xs))
  (ho:s.heap.get? p=some {cls:=.type "list",data:=.seq its.toArray n}) (hf:f {cls:=.type "list",data:=.seq its.toArray n}={cls:=.type "list",data:=.seq its'.toArray n'}) (r:cU ys its') (hz:ys.length<=aB) (t:Nat) :
  Inv X pins σ (upd H p (.lst ys)) {s with heap:=s.heap.update p f,toks:=t}:=by
 have e:(s.heap.update p f).get? p=some {cls:=.type "list",data:=.seq its'.toArray n'}:=by
  rw [pK f ho (by rw [hf] <;> rfl),hf]
 refine I.write (x:=p) (e:=p) (by rw [h]; trivial) (.inl rfl) (fun b u hb q=>(e8 _ _ (fj hb)).trans q) ⟨_,e⟩ ?_;exact ⟨hz,its',n',r,e⟩
def rSetL:V->V->V->Hp->(Hp->Prop)->Prop:=fun o i v H Q=>∃ p xs k j,o=.ref p/\i=.int k/\H p=some (.lst xs)/\ixN xs.length k=some j/\Q (upd H p (.lst (xs.set j v)))
theorem qM:PSet X rSetL:=by
 intro pins s σ H o i v ov iv u Q I ro ri rv h;obtain ⟨p,xs,k,j,rfl,rfl,hp,hj,q⟩:=h
 cases ro;obtain ⟨t,rfl⟩:=ri;obtain ⟨its,n,r,ho,hz⟩:=I.lst hp;obtain ⟨h1,h2,h3,h4⟩:=xw hj;have hl:=r.length;have hn:=rL;have I':Inv X pins σ (upd H p (.lst (xs.set j v))) {s with heap:=s.heap.update p (cX (·.setIfInBounds j u))}:=
  I.lstUpd hp ho (Ag its n j u) (r.set rv j) (by rw [HZ]; exact hz) s.toks
 by_cases h0:0<=k
 ·have hk:k.toNat=j:=by
   rw [HX h0 h4] at h1;exact dH h1
  exact PySem.W.ki_setAt ho h0 (by omega) (by rw [aG,<- hl]; exact h4) (by rw [hk]; exact ⟨_,I',q⟩)
 ·have hk:(k + (its.toArray.size:Int)).toNat=j:=by
   rw [ED (by omega) h3] at h1;rw [aG,<- hl];exact dH h1
  exact PySem.W.ki_setBack ho (by omega) (by rw [aG,<- hl]; exact h3) (by omega) (by rw [hk]; exact ⟨_,I',q⟩)
theorem xy (lo hi:Option Int) (n:Nat):(kK lo hi none n).1=((HT.sIx n 0 lo:Nat):Int)/\(kK lo hi none n).2.1=((HT.sIx n n hi:Nat):Int)/\(kK lo hi none n).2.2=1:=by
 refine ⟨?_,?_,rfl⟩
 ·cases lo with
  | none=>simp [kK,HT.sIx]
  | some i =>
   simp only [kK,HT.sIx,DV,show (1:Int) > 0 by decide,if_true]
   by_cases h:i < 0
   ·simp only [h,if_true] <;> omega
   ·simp only [h,if_false] <;> omega
 ·cases hi with
  | none=>simp [kK,HT.sIx]
  | some i =>
   simp only [kK,HT.sIx,DV,show (1:Int) > 0 by decide,if_true]
   by_cases h:i < 0
   ·simp only [h,if_true] <;> omega
   ·simp only [h,if_false] <;> omega
theorem vQ (its:List ae) (lo hi:Option Int):slicePick its.toArray lo hi none=((its.drop (HT.sIx its.length 0 lo)).take (HT.sIx its.length its.length hi - HT.sIx its.length 0 lo)).toArray:=by
 obtain ⟨h1,h2,h3⟩:=xy lo hi its.toArray.size;unfold slicePick;rw [h1,h2,h3];simp only [sliceRange_one,pick_run,aG] <;> rfl
def rSlL (K:af):V->Option Int->Option Int->Hp->VK->Prop:=fun x lo hi H Q=>∃ a xs,x=.ref a/\SqL K H a xs/\∀ p,H p=none->Q (.ref p) (upd H p (.lst (lC xs lo hi)))
theorem tW:SlR X (rSlL X.K):=by
 intro pins s σ H x v vl vu lo hi sl Q I rx hs pl pu h;obtain ⟨a,xs,rfl,hx,q⟩:=h
 cases rx;obtain ⟨its,r,ht,hz⟩:=I.list hx;have hlen:=r.length;refine ⟨"list",_,Nb.lookup,ht.isList.typeIs,?_⟩;refine wpAny_getItem_list_slice ht.isList hs pl pu .none (by simp) ?_ (by rw [aG] <;> omega);rw [vQ,<- hlen];refine ⟨.ref s.heap.objs.size,_,I.laid (t':=s.toks) (o:=.lst (lC xs lo hi)) (fun b ob q=>aI _ q) (aC _) ?_,rfl,q _ (I.hok.fresh (aC _))⟩;exact ⟨cZ (sY xs lo hi) hz,_,0,(r.drop (HT.sIx xs.length 0 lo)).take (HT.sIx xs.length xs.length hi - HT.sIx xs.length 0 lo),cj _ rfl⟩
def qN:V->Bool
 | .non=>true
 | .bl _=>true
 | .int _=>true
 | .str _=>true
 | _=>false
def eqV:V->V->Bool
 | .non,.non=>true
 | .bl a,.bl b=>a == b
 | .bl a,.int b=>(if a then 1 else 0) == b
 | .int a,.bl b=>a == (if b then 1 else 0)
 | .int a,.int b=>a == b
 | .str a,.str b=>a == b
 | _,_=>false
theorem Li {A:bS} {s:ak} {y x:V} {u v:ae} (ry:RelV y u) (rx:RelV x v) (fy:qN y=true) (fx:qN x=true):vN A s u v (eqV y x):=by
 cases y with
 | non =>
  cases ry
  cases x with
  | non=>cases rx; exact Ah _
  | bl b=>cases rx; exact SeqAt.EqAt.none_bool b
  | int b=>obtain ⟨t,rfl⟩:=rx; exact SeqAt.EqAt.none_int b t
  | str b=>obtain ⟨t,rfl⟩:=rx; exact SeqAt.EqAt.none_str b t
  | _=>exact absurd (show false=true from fx) aY
 | bl a =>
  cases ry
  cases x with
  | non=>cases rx; exact SeqAt.EqAt.bool_none a
  | bl b=>cases rx; exact SeqAt.EqAt.bool_bool a b
  | int b=>obtain ⟨t,rfl⟩:=rx; exact SeqAt.EqAt.bool_int a b t
  | str b=>obtain ⟨t,rfl⟩:=rx; exact SeqAt.EqAt.bool_str a b t
  | _=>exact absurd (show false=true from fx) aY
 | int a =>
  obtain ⟨t',rfl⟩:=ry
  cases x with
  | non=>cases rx; exact SeqAt.EqAt.int_none a t'
  | bl b=>cases rx; exact SeqAt.EqAt.int_bool a t' b
  | int b=>obtain ⟨t,rfl⟩:=rx; exact pI a t' b t
  | str b=>obtain ⟨t,rfl⟩:=rx; exact yy a t' b t
  | _=>exact absurd (show false=true from fx) aY
 | str a =>
  obtain ⟨t',rfl⟩:=ry
  cases x with
  | non=>cases rx; exact SeqAt.EqAt.str_none a t'
  | bl b=>cases rx; exact SeqAt.EqAt.str_bool a t' b
  | int b=>obtain ⟨t,rfl⟩:=rx; exact yz a t' b t
  | str b=>obtain ⟨t,rfl⟩:=rx; exact SeqAt.EqAt.str_str a t' b t
  | _=>exact absurd (show false=true from fx) aY
 | _=>exact absurd (show false=true from fy) aY
def eqU (x:V) (u:ae):Bool:=match u with
 | .none=>eqV .non x
 | .bool b=>eqV (.bl b) x
 | .int i _=>eqV (.int i) x
 | .str z _=>eqV (.str z) x
 | _=>false
theorem EG {x y:V} {u:ae} (r:RelV y u) (f:qN y=true):eqU x u=eqV y x:=by
 cases y with
 | non=>cases r; rfl
 | bl b=>cases r; rfl
 | int i=>obtain ⟨t,rfl⟩:=r; rfl
 | str z=>obtain ⟨t,rfl⟩:=r; rfl
 | _=>exact absurd (show false=true from f) aY
theorem xA {x:V}:∀ {xs:List V} {us:List ae},cU xs us->xs.all qN=true->us.any (eqU x)=xs.any fun y=>eqV y x
 | _,_,.nil,_=>rfl
 | y :: xs,u :: us,.cons r t,f=>by
  rw [Lj,tX] at f;rw [jU,jU,EG r f.1,xA t f.2]
theorem uM {A:bS} {s:ak} {x:V} {v:ae} (rx:RelV x v) (fx:qN x=true):∀ {xs:List V} {us:List ae},cU xs us->xs.all qN=true->∀ u∈us,vN A s u v (eqU x u)
 | _,_,.nil,_=>fun u hu=>by cases hu
 | y :: xs,u :: us,.cons r t,f=>fun u' hu=>by
  rw [Lj,tX] at f
  rcases au.mp hu with rfl | hu
  ·rw [EG r f.1]; exact Li r rx f.1 fx
  ·exact uM rx fx t f.2 u' hu
def inV (x:V) (xs:List V):Bool:=xs.any fun y=>eqV y x
def rIn (K:af) (neg:Bool):R2:=fun x y H Q=>∃ p xs,y=.ref p/\(SqL K H p xs\/SqT K H p xs)/\qN x=true/\xs.all qN=true/\Q (.bl (if neg then !inV x xs else inV x xs)) H
theorem xB:OpR X (dv .NotIn) (rIn X.K true):=by
 intro pins s σ H x y v u Q I rx ry h;obtain ⟨p,xs,rfl,hq,fx,fs,q⟩:=h
 cases ry
 rcases hq with hq | hq
 ·obtain ⟨its,r,pl,hz⟩:=I.list hq;refine SeqAt.notIn_listAt (eqU x) pl.isList (fun w hw=>uM rx fx r fs w (by simpa using hw)) ⟨.bl _,H,I,rfl,?_⟩;rw [show its.toArray.any (eqU x)=its.any (eqU x) by simp,xA r fs];exact q
 ·obtain ⟨its,r,pl,hz⟩:=I.tuple hq;refine SeqAt.notIn_tupleAt (eqU x) pl (fun w hw=>uM rx fx r fs w (by simpa using hw)) ⟨.bl _,H,I,rfl,?_⟩;rw [show its.toArray.any (eqU x)=its.any (eqU x) by simp,xA r fs];exact q
theorem gP:jH X (.builtin "len") (fun xs H Q=>∃ p ys,xs=[.ref p]/\(SqL X.K H p ys\/SqT X.K H p ys)/\Q (.int ys.length) H):=by
 intro pins s σ H xs us Q I r h;obtain ⟨p,ys,rfl,hq,q⟩:=h;obtain ⟨u,rfl,rx⟩:=vals1 r
 cases rx;have hn:=rL
 rcases hq with hq | hq
 ·obtain ⟨its,r',pl,hz⟩:=I.list hq;have hlen:=r'.length;exact Calls.call_len_list pl.isList (by simp only [aG] <;> omega) ⟨.int ys.length,H,I.tok _,⟨s.toks + 1,by rw [aG,hlen]⟩,q⟩
 ·obtain ⟨its,r',pl,hz⟩:=I.tuple hq;have hlen:=r'.length;exact len_tuple pl (by simp only [aG] <;> omega) ⟨.int ys.length,H,I.tok _,⟨s.toks + 1,by rw [aG,hlen]⟩,q⟩
theorem mP:jH X (.type "list") (fun xs H Q=>∃ p ys,xs=[.ref p]/\(SqL X.K H p ys\/SqT X.K H p ys)/\∀ l,H l=none->Q (.ref l) (upd H l (.lst ys))):=by
 intro pins s σ H xs us Q I r h;obtain ⟨p,ys,rfl,hq,q⟩:=h;obtain ⟨u,rfl,rx⟩:=vals1 r
 cases rx;have fin:∀ (its:List ae),cU ys its->ys.length<=aB->∀ (h':cu) (c':Nat),(∀ b o',s.heap.get? b=some o'->h'.get? b=some o') ->
   h'.get? s.heap.objs.size=some {cls:=.type "list",dict:=none,data:=.seq its.toArray c',slots:=#[]}->EP X pins σ Q (.ref s.heap.objs.size) {s with heap:=h'}:=fun its r' hz h' c' kp e =>
  ⟨.ref s.heap.objs.size,_,I.laid (t':=s.toks) kp (aC _) (show eB X.prog X.w _ h' _ (.lst ys) from ⟨hz,its,c',r',e⟩),rfl,q _ (I.hok.fresh (aC _))⟩
 rcases hq with hq | hq
 ·obtain ⟨its,r',pl,hz⟩:=I.list hq;have hlen:=r'.length;obtain ⟨o,ho,hc,n,hd⟩:=pl.isList;exact call_list_seq p (.inl rfl) ho hc hd (fun h' c' kp e=>fin its r' hz h' c' kp e) (by simp only [aG] <;> omega)
 ·obtain ⟨its,r',pl,hz⟩:=I.tuple hq;have hlen:=r'.length;obtain ⟨o,ho,hc,n,hd⟩:=pl;exact call_list_seq p (.inr rfl) ho hc hd (fun h' c' kp e=>fin its r' hz h' c' kp e) (by simp only [aG] <;> omega)
theorem vR:jH X (.type "tuple") (fun xs H Q=>∃ p ys,xs=[.ref p]/\((SqL X.K H p ys/\∀ l,H l=none->Q (.ref l) (upd H l (.tup ys)))\/(SqT X.K H p ys/\Q (.ref p) H))):=by
 intro pins s σ H xs us Q I r h;obtain ⟨p,ys,rfl,h⟩:=h;obtain ⟨u,rfl,rx⟩:=vals1 r
 cases rx
 rcases h with ⟨hq,q⟩ | ⟨hq,q⟩
 ·obtain ⟨its,r',pl,hz⟩:=I.list hq;have hlen:=r'.length;refine call_tuple_list pl.isList (fun h' kp=>?_) (by simp only [aG] <;> omega);have I1:Inv X pins σ H {s with heap:=h'}:=I.kept (t':=s.toks) kp;have I2:Inv X pins σ (upd H h'.objs.size (.tup ys)) {s with heap:=h'.push {cls:=.type "tuple",data:=.seq its.toArray}}:=
   I1.laid (t':=s.toks) (fun b o e=>aI _ e) (aC _) (show eB X.prog X.w _ _ _ (.tup ys) from ⟨hz,its,r',IsTup.new _ _⟩)
  exact ⟨.ref h'.objs.size,_,I2,rfl,q _ (I1.hok.fresh (aC _))⟩
 ·obtain ⟨its,r',pl,hz⟩:=I.tuple hq;exact call_tuple_same pl ⟨.ref p,H,I,rfl,q⟩
def tyV (K:af) (T:String) (x:V) (H:Hp):Prop:=match x with
 | .str _=>T="str"
 | .int _=>T="int"
 | .ref p=>(T="list"/\∃ xs,SqL K H p xs)\/(T="tuple"/\∃ o,K.lookup p=some o/\o.cls=.type "tuple"/\o.dict=none) \/
   (T="dict"/\((∃ kvs,H p=some (.dK kvs))\/∃ kvs,H p=some (.dT kvs)))\/(T="set"/\∃ S n,H p=some (.set S n))
 | _=>False
theorem EH {pins:List (aa×Obj)} {σ:St} {H:Hp} {s:ak} {T:String} {x:V} {v:ae} (I:Inv X pins σ H s) (r:RelV x v) (ty:tyV X.K T x H) :
  s.TypeIs v T/\∀ a,v=.ref a->∃ ob,s.heap.get? a=some ob/\ob.dict=none:=by
 cases x with
 | str z =>
  obtain ⟨t,rfl⟩:=r
  cases (show T="str" from ty);exact ⟨typeIs_str s z t,fun _ e=>nomatch e⟩
 | int i =>
  obtain ⟨t,rfl⟩:=r
  cases (show T="int" from ty);exact ⟨typeIs_int s i t,fun _ e=>nomatch e⟩
 | ref p =>
  cases r
  rcases ty with ⟨rfl,xs,hq⟩ | ⟨rfl,o,hk,hc,hd⟩ | ⟨rfl,hk⟩ | ⟨rfl,S,n,hk⟩
  ·obtain ⟨its,_,pl,_⟩:=I.list hq;refine ⟨pl.isList.typeIs,fun a e=>?_⟩
   cases e;obtain ⟨o,n,e,c,hd,_⟩:=pl;exact ⟨o,e,hd⟩
  ·refine ⟨⟨o,I.kIn p o hk,hc⟩,fun a e=>?_⟩
   cases e;exact ⟨o,I.kIn _ o hk,hd⟩
  ·have z:∃ o,s.heap.get? p=some o/\o.ExactDict:=by
    rcases hk with ⟨kvs,hk⟩ | ⟨kvs,hk⟩
    ·obtain ⟨_,_,_,_,o,_,_,e,ex,_⟩:=I.hok p _ hk;exact ⟨o,e,ex⟩
    ·obtain ⟨_,_,_,_,o,_,_,e,ex,_⟩:=I.hok p _ hk;exact ⟨o,e,ex⟩
   obtain ⟨o,e,ex⟩:=z;refine ⟨⟨o,e,ex.1⟩,fun a e2=>?_⟩
   cases e2;exact ⟨o,e,ex.2.1⟩
  ·obtain ⟨o,_,_,_,e,ex,_⟩:=I.hok p _ hk;refine ⟨⟨o,e,ex.1⟩,fun a e2=>?_⟩
   cases e2;exact ⟨o,e,ex.2.1⟩
 | _=>exact cH ty
def tBM0 (K:af) (T:String) (r:V->List V->Hp->VK->Prop) (to:TE):TE:=fun σ H Q=>to σ H fun x H1=>tyV K T x H1/\r x [] H1 Q
def tBM (K:af) (T:String) (r:V->List V->Hp->VK->Prop) (to:TE) (t:TA):TE:=fun σ H Q=>to σ H fun x H1=>tyV K T x H1/\t σ H1 fun xs H2=>r x xs H2 Q
variable {o e:cM} {es:List cM} {to:TE} {t:TA} {name:Str} {apos cpos:Pos} {T id:String} {r:V->List V->Hp->VK->Prop}
theorem Ll (pa:PlainAttrs T) (slot:Slot T name id) (hty:typeOf (.builtin id)=pure (.type "method_descriptor")) (hm:MtR X id r) (ho:PE X o to)
  (hbase:kC o name X.env (fc o X.env)=fc o X.env:=by rfl) (hline:(apos.endLine == cpos.line)=true:=by rfl):PE X (.Call (.Attribute o name apos) [] [] cpos) (tBM0 X.K T r to):=by
 intro pins s σ H Q I h;refine DX hbase hline (thn (ho pins s σ H _ I h) fun v s1 ⟨x,H1,I1,r1,ty,q1⟩=>?_);obtain ⟨h1,h2⟩:=EH I1 r1 ty;exact ⟨T,id,pa,slot,hty,h1,h2,nY rfl (Bb (hm pins s1 σ H1 x [] v [] Q I1 r1 .nil q1))⟩
theorem lQ (pa:PlainAttrs T) (slot:Slot T name id) (hty:typeOf (.builtin id)=pure (.type "method_descriptor")) (hm:MtR X id r) (ho:PE X o to) (ha:PA X (e :: es) t)
  (hbase:kC o name X.env (fc o X.env)=fc o X.env:=by rfl)
  (hfew:((ia cpos (cw (e :: es) X.env)).all (fun x=>!x.1) && (kJ cpos (hZ [] X.env)).all (fun x=>x.1.isSome)
   && decide ((e :: es).length + ([]:List M9).length + (if ([]:List M9).isEmpty then 0 else 1) < 30))=true:=by rfl)
  (hline:(apos.endLine == cpos.line)=true:=by rfl) (hs:cw (e :: es) X.env=(false,fc e X.env) :: cw es X.env:=by rfl) (hplain:(ia cpos (cw es X.env)).any (·.1)=false:=by rfl) :
  PE X (.Call (.Attribute o name apos) (e :: es) [] cpos) (tBM X.K T r to t):=by
 intro pins s σ H Q I h;refine wpAny_Call_method_late hbase hfew hline rfl (thn (ho pins s σ H _ I h) fun v s1 ⟨x,H1,I1,r1,ty,q1⟩=>?_);obtain ⟨h1,h2⟩:=EH I1 r1 ty;refine ⟨T,id,pa,slot,hty,h1,h2,?_⟩;have hA:=ha cpos pins s1 σ H1 _ I1 q1;rw [hs] at hA |-;refine nY (by show (false || (ia cpos (cw es X.env)).any (·.1))=false; rw [hplain] <;> rfl) (Ai ?_);exact thn hA fun us s2 ⟨vs,H2,I2,r2,q2⟩=>hm pins s2 σ H2 x vs v us Q I2 r1 r2 q2
end
def MtM (X:Cx) (id:String) (r:V->List V->Hp->VK->Prop):Prop:=
 ∀ (pins:List (aa×Obj)) (s:ak) (σ:St) (H:Hp) (x:V) (xs:List V) (v:ae) (us:List ae) (Q:VK),Inv X pins σ H s->RelV x v->cU xs us->r x xs H Q ->
  aU (aX X.prog X.w) X.A (vJ (.builtin id) (v :: us)) (EP X pins σ Q) X.xe s
theorem cU.one:∀ {x:V} {us:List ae},cU [x] us->∃ u,us=[u]/\RelV x u
 | _,_,.cons r .nil=>⟨_,rfl,r⟩
theorem cU.two:∀ {x y:V} {us:List ae},cU [x,y] us->∃ u v,us=[u,v]/\RelV x u/\RelV y v
 | _,_,_,.cons r (.cons q .nil)=>⟨_,_,rfl,r,q⟩
theorem cU.zero:∀ {us:List ae},cU [] us->us=[]
 | _,.nil=>rfl
theorem cU.dropLast {xs:List V} {us:List ae} (h:cU xs us):cU xs.dropLast us.dropLast:=by
 induction h with
 | nil=>exact .nil
 | cons r t ih =>
  cases t with
  | nil=>exact .nil
  | cons q t'=>exact .cons r ih
theorem cU.eraseIdx:∀ {xs:List V} {us:List ae} (i:Nat),cU xs us->cU (xs.eraseIdx i) (us.eraseIdx i)
 | _,_,_,.nil=>.nil
 | _,_,0,.cons _ t=>t
 | _,_,i + 1,.cons r t=>.cons r (cU.eraseIdx i t)
theorem cU.reverse {xs:List V} {us:List ae} (h:cU xs us):cU xs.reverse us.reverse:=by
 induction h with
 | nil=>exact .nil
 | cons r t ih=>rw [EI,EI]; exact cU.append ih (.cons r .nil)
theorem Aj {α:Type} (l:List α):l.eraseIdx (l.length - 1)=l.dropLast:=by
 induction l with
 | nil=>rfl
 | cons a r ih =>
  cases r with
  | nil=>rfl
  | cons b r =>
   have e:(a :: b :: r).length - 1=((b :: r).length - 1) + 1:=by
    have h1:(a :: b :: r).length=r.length + 2:=rfl;have h2:(b :: r).length=r.length + 1:=rfl;omega
   rw [e,List.eraseIdx_cons_succ,ih]
   all_goals rfl
theorem wI {α:Type}:∀ (l:List α) (i:Nat),(l.eraseIdx i).length<=l.length
 | [],_=>aC _
 | _ :: _,0=>fq _
 | _ :: r,i + 1=>Nat.succ_le_succ (wI r i)
section
variable {X:Cx} {pins:List (aa×Obj)} {σ:St} {H:Hp} {s:ak} {l b:aa} {xs ys zs:List V}
theorem Inv.lset {its its':List ae} {n:Nat} {f:Array ae->Array ae} {t':Nat} (I:Inv X pins σ H s) (hH:H l=some (.lst xs))
  (e:s.heap.get? l=some {cls:=.type "list",data:=.seq its.toArray n}) (hf:f its.toArray=its'.toArray) (hv:cU ys its') (hz:ys.length<=aB) :
  Inv X pins σ (upd H l (.lst ys)) {s with heap:=s.heap.update l (cX f),toks:=t'}:=by
 have q:=PySem.IsL.update e f;rw [hf] at q;refine I.write (x:=l) (e:=l) (by rw [hH]; exact trivial) (.inl rfl) (fun b' u hb hu=>(e8 s.heap (cX f) (fj hb)).trans hu) ⟨_,q⟩ ?_;exact ⟨hz,its',_,hv,q⟩
theorem Inv.lnew {its:List ae} {t':Nat} (I:Inv X pins σ H s) (hv:cU ys its) (hz:ys.length<=aB) :
  Inv X pins σ (upd H s.heap.objs.size (.lst ys)) {s with heap:=s.heap.push {cls:=.type "list",data:=.seq its.toArray},toks:=t'}:=
 I.laid (fun _ _ q=>aI _ q) (aC _) ⟨hz,its,0,hv,cj _ rfl⟩
theorem Inv.fresh (I:Inv X pins σ H s):H s.heap.objs.size=none:=I.hok.fresh (aC _)
theorem Inv.lstM (I:Inv X pins σ H s) (hH:H l=some (.lst xs)):xs.length<=aB/\∃ (its:List ae) (n:Nat),cU xs its/\xs.length=its.length/\s.heap.get? l=some {cls:=.type "list",data:=.seq its.toArray n}:=by
 obtain ⟨z,its,n,r,e⟩:=I.hok l _ hH;exact ⟨z,its,n,r,r.length,e⟩
theorem EJ {n:Nat} (h:n<=aB):j2 n=false:=by
 unfold j2;exact decide_eq_false (by omega)
end
section
variable {X:Cx}
inductive AppI (x:V) (vs:List V) (H:Hp) (Q:VK):Prop where
 | mk (l:aa) (xs:List V) (y:V) (hx:x=.ref l) (hv:vs=[y]) (h:H l=some (.lst xs)) (n:xs.length < aB) (q:Q .non (upd H l (.lst (xs++[y])))):AppI x vs H Q
def H9:V->List V->Hp->VK->Prop:=fun x vs H Q=>AppI x vs H Q
theorem gY:MtM X "list.append" H9:=by
 intro pins s σ H x vs v us Q I rx rv h;obtain ⟨l,xs,y,rfl,rfl,hH,hz,q⟩:=h
 cases rx;obtain ⟨u,rfl,ru⟩:=rv.one;obtain ⟨z,its,n,r,hl,e⟩:=I.lstM hH;refine qv F.slot_list_append ⟨_,e,rfl⟩ F.entry_list_append (F.args_list_append_2 _ _) (PySem.list_append l its.toArray n u (by rw [aG]; omega)) ⟨e,?_⟩;refine ⟨.non,_,I.lset (its':=its++[u]) hH e (by simp) (r.append (.cons ru .nil)) ?_,rfl,q⟩;rw [aA,Ak];omega
def Ia:V->List V->Hp->VK->Prop:=fun x vs H Q=>∃ l b xs zs,x=.ref l/\vs=[.ref b]/\H l=some (.lst xs)/\H b=some (.lst zs)/\xs.length + zs.length<=aB/\Q .non (upd H l (.lst (xs++zs)))
theorem Cu:MtM X "list.extend" Ia:=by
 intro pins s σ H x vs v us Q I rx rv h;obtain ⟨l,b,xs,zs,rfl,rfl,hH,hB,hz,q⟩:=h
 cases rx;obtain ⟨u,rfl,ru⟩:=rv.one
 cases ru;obtain ⟨z,its,n,r,hl,e⟩:=I.lstM hH;obtain ⟨z2,its2,n2,r2,hl2,e2⟩:=I.lstM hB;have hsz:its.toArray.size + its2.toArray.size<=aB:=by rw [aG,aG]; omega
 have hlong:¬ (!its.toArray.isEmpty && j2 (its.toArray.size + its2.toArray.size))=true:=by
  rw [EJ hsz,JS];exact aY
 refine qv F.slot_list_extend ⟨_,e,rfl⟩ F.entry_list_extend (F.args_list_extend_2 _ _)
  (AutoSeq1.list_extend_list_list_0 l its.toArray n b its2.toArray n2 hlong (by rw [aG]; omega) (by omega)) ⟨e,e2,?_⟩
 refine ⟨.non,_,I.lset (its':=its++its2) hH e (by simp) (r.append r2) ?_,rfl,q⟩;rw [aA];omega
def rPop:V->List V->Hp->VK->Prop:=fun x vs H Q=>∃ l xs y,x=.ref l/\vs=[]/\H l=some (.lst xs)/\xs[xs.length - 1]?=some y/\Q y (upd H l (.lst xs.dropLast))
theorem Lm:MtM X "list.pop" rPop:=by
 intro pins s σ H x vs v us Q I rx rv h;obtain ⟨l,xs,y,rfl,rfl,hH,hy,q⟩:=h
 cases rx;have hus:=rv.zero;subst hus;obtain ⟨z,its,n,r,hl,e⟩:=I.lstM hH;obtain ⟨u,hu,ru⟩:=r.get hy;have hy':its.toArray[its.toArray.size - 1]?=some u:=by
  show its.toArray[its.length - 1]?=some u;rw [<- oJ,<- hl];exact hu
 refine qv F.slot_list_pop ⟨_,e,rfl⟩ F.entry_list_pop (F.args_list_pop_1 _) (MeetsSeq.list_pop_last l its.toArray n u hy' (by rw [aG]; omega)) ⟨e,?_⟩;refine ⟨y,_,I.lset (its':=its.dropLast) hH e ?_ r.dropLast ?_,ru,q⟩
 ·show its.toArray.eraseIdxIfInBounds (its.toArray.size - 1)=its.dropLast.toArray;rw [aG,tK,Aj]
 ·rw [jW];omega
def Ln:V->List V->Hp->VK->Prop:=fun x vs H Q=>∃ l xs i k y,x=.ref l/\vs=[.int i]/\H l=some (.lst xs)/\-(2 ^ 63)<=i/\i < 2 ^ 63/\seqIndex? i xs.length=some k/\xs[k]?=some y/\Q y (upd H l (.lst (xs.eraseIdx k)))
theorem EK:MtM X "list.pop" Ln:=by
 intro pins s σ H x vs v us Q I rx rv h;obtain ⟨l,xs,i,k,y,rfl,rfl,hH,h1,h2,hk,hy,q⟩:=h
 cases rx;obtain ⟨u,rfl,ru⟩:=rv.one;obtain ⟨t,rfl⟩:=ru;obtain ⟨z,its,n,r,hl,e⟩:=I.lstM hH;obtain ⟨w,hw,rw'⟩:=r.get hy;refine qv F.slot_list_pop ⟨_,e,rfl⟩ F.entry_list_pop (F.args_list_pop_2 _ _)
  (MeetsSeq.list_pop_at l its.toArray n i t k w (fitsIndex_both h1 h2) (by rw [aG,<- hl]; exact hk) (by rw [<- oJ]; exact hw) (by rw [aG]; omega)) ⟨e,?_⟩
 refine ⟨y,_,I.lset (its':=its.eraseIdx k) hH e ?_ (r.eraseIdx k) ?_,rw',q⟩
 ·show its.toArray.eraseIdxIfInBounds k=(its.eraseIdx k).toArray;rw [tK]
 ·have:=wI xs k;omega
def rCat:R2:=fun x y H Q=>∃ l b xs zs,x=.ref l/\y=.ref b/\H l=some (.lst xs)/\H b=some (.lst zs)/\xs.length + zs.length<=aB/\∀ p,H p=none->Q (.ref p) (upd H p (.lst (xs++zs)))
theorem Lo:OpR X (g9 .Add) rCat:=by
 intro pins s σ H x y v u Q I rx ry h;obtain ⟨l,b,xs,zs,rfl,rfl,hH,hB,hz,q⟩:=h
 cases rx
 cases ry;obtain ⟨z,its,n,r,hl,e⟩:=I.lstM hH;obtain ⟨z2,its2,n2,r2,hl2,e2⟩:=I.lstM hB;refine PySem.P.add_list e e2 ?_ (by rw [aG,aG]; omega);have ea:its.toArray++its2.toArray=(its++its2).toArray:=by simp
 rw [ea];exact ⟨.ref _,_,I.lnew (t':=s.toks) (r.append r2) (by rw [aA]; omega),rfl,q _ I.fresh⟩
end
section
variable {prog:aJ} {w:bJ} {A:bS} {E:ae->ak->Prop} {s:ak}
end
section
variable {X:Cx}
end
end L2
namespace Att
open PySem PySem.W PySem.Calls PyProof.Rows
theorem ints_of_wellAll {P:Params} {h:cu}:∀ (ns:List Int) (vs:List ae),WellAll P h vs (ns.map WData.int)->eF vs ns:=by
 intro ns
 induction ns with
 | nil =>
  intro vs w;rw [sW] at w
  cases w;exact .nil
 | cons n ns ih =>
  intro vs w;rw [bQ] at w
  cases w with
  | cons a b =>
   cases a;exact .cons _ _ (ih _ b)
theorem script_of {l:OpenLaw} {n:Nat} (hn:l.most=some n) {P:Params} {h:cu} {args:List WData} {vals:List ae}
  (hpre:l.row.toRowW.claim.pre args=true) (hwl:WellAll P h vals args) :
  ∃ a vs ns,vals=[Value.ref a]/\args=[WData.list (ns.map WData.int)]/\h.get? a=some {cls:=.type "list",data:=.seq vs.toArray}/\eF vs ns/\ns.length<=n:=by
 have hsh:WShape.hasAll [] args [.list .int]=true:=(pre_splitW hpre).1;have hc:l.pre.holds [] {args:=args}=true:=(pre_splitW hpre).2;obtain ⟨d,r,rfl,h1,h2⟩:=hasAllW_cons hsh;obtain rfl:=hasAllW_nil h2;obtain ⟨xs,rfl,h3⟩:=hasW_list h1;obtain ⟨ns,rfl⟩:=items_int h3;have hlen:ns.length<=n:=by
  unfold OpenLaw.pre at hc;have h4:(WTm.not (.lt (.lit (.int (n:Int))) (.len (.arg 0)))).holds [] {args:=[.list (ns.map .int)]}=true:=by
   have h4:=(holds_andW hc).1;rw [hn] at h4;exact h4
  have h5:=condW_of h4 (w_not (w_lt w_lit (w_len_list (w_arg rfl))));rw [ar] at h5;refine Nat.le_of_not_lt fun q=>?_;have q':(n:Int) < ((ns.length:Nat):Int):=by omega
  first
   |(rw [decide_eq_true q'] at h5; exact absurd h5 (by decide))
   |(simp at h5; omega)
 cases hwl with
 | cons w1 w2 =>
  cases w2
  cases w1 with
  | list ho hall=>exact ⟨_,_,ns,rfl,rfl,ho,ints_of_wellAll ns _ hall,hlen⟩
theorem post_true (l:OpenLaw) (args:List WData):l.row.toRowW.claim.post args (.bool true) args=true:=
 postW_of (r:=l.row.toRowW) (X:=(true == true))
  (show Nc [] (.bool true) .bool=true by first | rfl | decide | simp [Nc,WShape.arms,WShape.armsAll])
  (show (WTm.eq .res (.lit (.bool true))).value [] {args:=args,res:=some (.bool true),after:=args}=some (.bool (true == true)) from w_eq_bool (w_res rfl) w_lit) rfl
section
variable {prog:aJ} {w:bJ} {A:bS} {E:ae->ak->Prop} {s:ak} {K:Frag}
end
end Att
namespace L2
open PySem PySem.Spec PyProof.Rows
theorem wJ:∀ {vs:List ae} {ns:List Int},eF vs ns->cU (ns.map V.int) vs
 | _,_,.nil=>.nil
 | _,_,.cons n t h=>.cons ⟨t,rfl⟩ (wJ h)
def Only (H:Hp):Prop:=∀ b,H b=none\/∃ o xs,H b=some (.frz o (.lst xs))
theorem EL {P:aJ} {w:bJ} {K:af} {mg mb:Str->Option ae} {CX:CXT} {k:Nat} {fa a:aa} {fd:bR} {x:Str} {sp:Sp} {s₁:ak} {vs:List ae} {ns:List Int}
  (KX:K.In s₁.heap) (hns:s₁.heap.Ns aW mg) (hb:s₁.heap.Ns KZ mb) (hbb:∀ x:Str,x≠"__name__"->mb x=eE x) (hlim:s₁.heap.NoLimit) (hg:s₁.gens=#[])
  (ha:s₁.heap.get? a=some {cls:=.type "list",data:=.seq vs.toArray}) (hi:eF vs ns) (hl:ns.length<=aB) (hr:c5 k vS)
  (F:∀ base:cu,K.In base->base.Ns aW mg->bA P w K mg base CX k fa fd [x] sp) (hbind:∀ (s:ak) (u:ae),sV s fd ⟨[u],[]⟩ [(x,u)])
  (hsp:∀ H:Hp,Only H->SqL K H a (ns.map V.int)->sp [.ref a] H (fun v _=>v=.bl true) fun _ _ _=>False)
  (hCX:∀ H e s',CX [] H s₁ (fun _ _ _=>False) e s'->False) :
  lO (aX P w) vS (.call (.ref fa) ⟨[.ref a],[]⟩) (fun r s'=>r=.ok (.ret (.bool true))/\OldK s₁.heap s'.heap/\s'.os=s₁.os/\oj s'.gens) s₁:=by
 have rv:=wJ hi;have lenV:=hi.length
 -- from an abstract heap in which nothing but the script may be tracked
 have core:∀ H:Hp,Only H->SqL K H a (ns.map V.int)->HOk P w H s₁.heap->(∀ b,H b≠none->b=a)->(H a≠none->K.lookup a=none) ->
   lO (aX P w) vS (.call (.ref fa) ⟨[.ref a],[]⟩) (fun r s'=>r=.ok (.ret (.bool true))/\OldK s₁.heap s'.heap/\s'.os=s₁.os/\oj s'.gens) s₁:=by
  intro H hO hS hok hA hK;have base_of:∀ {b:aa} {o:Obj},s₁.heap.get? b=some o->H b=none->(xm s₁.heap H).get? b=some o:=fun e n=>Ef e n;have noA:∀ {b:aa} {o:Obj} {es:Array DictEntry} {ep:Nat},s₁.heap.get? b=some o->o.data=.dict es ep->H b=none:=fun {b o es ep} e d=>by
   cases q:H b with
   | none=>rfl
   | some u =>
    have e':b=a:=hA b (by rw [q]; simp);subst e';rw [ha] at e; cases e;have d':Data.seq vs.toArray _=Data.dict es ep:=d
    cases d'
  have nsK:∀ {b:aa} {m:Str->Option ae},s₁.heap.Ns b m->(xm s₁.heap H).Ns b m:=fun {b m} ⟨o,es,ep,e,d,r⟩=>⟨o,es,ep,base_of e (noA e d),d,r⟩;have hKb:K.In (xm s₁.heap H):=fun b o e=>base_of (KX b o e) (by
   cases q:H b with
   | none=>rfl
   | some u =>
    have e':b=a:=hA b (by rw [q]; simp);subst e';rw [hK (by rw [q]; simp)] at e; cases e)
  have hM:Mod K mg (xm s₁.heap H):=⟨hKb,nsK hns,⟨mb,nsK hb,hbb⟩,let ⟨mc,h1,h2⟩:=hlim; ⟨mc,nsK h1,h2⟩⟩;have e0:xt P w K mg (xm s₁.heap H) vS [] s₁ H:=⟨rfl,hM,fun b o e=>HG e,z8 (Cd _ _),trivial,fun b hb=>absurd (show b∈([]:List aa) from hb) (by simp),hok,.of_eq hg⟩;refine jS ((F _ hKb (nsK hns)).run vS [] s₁ H ⟨[.ref a],[]⟩ [.ref a] [.ref a] _ _ hr e0 (hbind s₁ (.ref a)) (.cons rfl .nil) (hsp H hO hS)) fun r s' h=>?_
  cases r with
  | error e=>exact (hCX H e s' h).elim
  | ok fl =>
   cases fl with
   | next=>exact cH h
   | brk=>exact cH h
   | cont=>exact cH h
   | ret u =>
    obtain ⟨v,H',os,bare,un,hok',r',q⟩:=h;have q':v=.bl true:=q;subst q';obtain rfl:u=Value.bool true:=r';refine ⟨rfl,OldK.of_keep fun b o e=>?_,os,bare⟩
    cases q:H b with
    | none=>exact un.keep b o e q (by intro z; exact absurd (show b∈([]:List aa) from z) (by simp)) (by simp)
    | some u =>
     rcases hO b with z | ⟨ob,xs,z⟩
     ·rw [q] at z; cases z
     ·have z2:=un.frzs b ob _ z;obtain ⟨e1,_⟩:=hok b _ z;obtain ⟨e2,_⟩:=hok' b _ z2;rw [e] at e1; cases e1;exact e2
 cases hk:K.lookup a with
 | some o =>
  -- the script is one of the module's own objects
  have e:=KX a o hk;rw [ha] at e
  cases e;refine core (fun _=>none) (fun _=>.inl rfl) (.inr ⟨_,vs.toArray,_,hk,rfl,rfl,rfl,by rw [aG,lenV]; exact hl,by simpa using rv⟩) (fun b u z=>by have z':(none:Option HO)=some u:=z; cases z') (fun b z=>absurd rfl z) fun z=>absurd rfl z
 | none =>
  refine core (fun b=>if b=a then some (.frz {cls:=.type "list",data:=.seq vs.toArray} (.lst (ns.map V.int))) else none) (fun b=>?_) (.inl (.inr ⟨{cls:=.type "list",data:=.seq vs.toArray},if_pos rfl⟩)) (fun b u z=>?_) (fun b z=>?_) fun _=>hk
  ·by_cases hb:b=a
   ·exact .inr ⟨_,_,if_pos hb⟩
   ·exact .inl (if_neg hb)
  ·by_cases hb:b=a
   ·have z':=(if_pos hb).symm.trans z
    cases z';subst hb;exact ⟨ha,by rw [ar]; exact hl,vs,_,rv,ha⟩
   ·have z':=(if_neg hb).symm.trans z
    cases z'
  ·by_cases hb:b=a
   ·exact hb
   ·exact absurd (if_neg hb) z
def eJ (s:cV) (j:Nat):cV:=match s with
 | .ClassDef _ _ _ body _ _ _ _ _ _ _=>body.getD j (.Pass ⟨0,0,0,0⟩)
 | _=>.Pass ⟨0,0,0,0⟩
def jY (s:cV):Arguments:=match s with
 | .FunctionDef _ a _ _ _ _ _ _ _ _=>a
 | _=>{posonlyargs:=[],args:=[],vararg:=none,kwonlyargs:=[],kw_defaults:=[],kwarg:=none,defaults:=[]}
def iO (s:cV):List cV:=match s with
 | .FunctionDef _ _ b _ _ _ _ _ _ _=>b
 | _=>[]
def aL (s:cV):kE:=match s with
 | .FunctionDef _ _ _ _ _ _ sc _ _ _=>sc
 | _=>{kind:=.function,names:=[],isGenerator:=false,isCoroutine:=false}
abbrev CX0:CXT:=fun _ _ _ _ _ _=>False
abbrev E0:XK:=fun _ _ _=>False
theorem bj {X:Cx}:lB CX0 X E0:=fun _ _ _ _ _ _ _ h=>h.elim
structure Fun (K:af) (x qual:Str) (st:cV) (f:aa) (fd:bR):Prop where
 ex:∃ (oc:ae) (od:Option aa) (kV doc pm:ae) (an:Option aa) (cdv ct:ae) (osl:Array (Option ae)),
  fd=eT x qual (jY st) (iO st) (aL st) .none kV doc pm an cdv ct/\K.lookup f=some ⟨oc,od,.func fd,osl⟩/\jb K cdv qual=true
 kp:gi K (.ref f)=true
section
variable {P:aJ} {w:bJ} {K:af} {mg:Str->Option ae} {base:cu}
theorem Fun.ok {x qual:Str} {st:cV} {f:aa} {fd:bR} {N ps:List Str} {k:Nat} {sp:Sp} (F:Fun K x qual st f fd) (S:bK N ps (aL st)) (len:∀ vs H Q E,sp vs H Q E->vs.length=ps.length)
  (hbody:∀ (cdv:ae) (A:bS) (outer:List Env) (s:ak) (H:Hp) (vs:List V) (Q:VK) (E:XK),c5 k (A.deeper (rP qual (aL st) s.heap.objs.size f cdv))->sp vs H Q E ->
   ∃ t,PSs (rO CX0 P w K mg base N qual (aL st) f cdv A outer s H E).nox (iO st) t/\t {nx:=fun _ H'=>Q .non H',rt:=Q} (start N vs) H):bA P w K mg base CX0 (k + 1) f fd ps sp:=by
 obtain ⟨oc,od,kV,doc,pm,an,cdv,ct,osl,rfl,lk,hcd⟩:=F.ex;refine JR lk hcd S len fun A outer s H vs Q E hr hsp=>?_;obtain ⟨t,h,q⟩:=hbody cdv A outer s H vs Q E hr hsp;exact ⟨t,h.nox,q⟩
theorem Fun.binds {x qual:Str} {st:cV} {f:aa} {fd:bR} {ps:List Str} (F:Fun K x qual st f fd)
  (h:∀ (kV doc pm:ae) (an:Option aa) (cdv ct:ae) (us:List ae),us.length=ps.length->Ac (eT x qual (jY st) (iO st) (aL st) .none kV doc pm an cdv ct) ⟨us,[]⟩=pure (ps.zip us)):Binds K fd ps []:=by
 obtain ⟨oc,od,kV,doc,pm,an,cdv,ct,osl,rfl,lk,hcd⟩:=F.ex;exact .all (h kV doc pm an cdv ct)
theorem EM {x qual:Str} {st:cV} {f:aa} {oc:ae} {od an:Option aa} {osl:Array (Option ae)} {kV doc pm cdv ct:ae} (l:K.lookup f=some ⟨oc,od,.func (eT x qual (jY st) (iO st) (aL st) .none kV doc pm an cdv ct),osl⟩)
  (c:jb K cdv qual=true) (k:gi K (.ref f)=true):Fun K x qual st f (eT x qual (jY st) (iO st) (aL st) .none kV doc pm an cdv ct):=⟨⟨oc,od,kV,doc,pm,an,cdv,ct,osl,rfl,l,c⟩,k⟩
end
theorem kQ {A:bS} {k:Nat} (hr:c5 k A):A.units + 1 < eO:=jc (DY (by decide:1<=64) _) hr.units
section
variable {X:Cx}
theorem pv (i:Nat) {x:Str} {pos:Pos} (hN:X.N[i]?=some x:=by rfl) (hv:Vis X.env.scope x:=by first | exact Or.inl rfl | exact Or.inr (Or.inl rfl) | exact Or.inr (Or.inr rfl)) (hd:(x == ("__debug__":Str))=false:=by decide)
  (hcd:(x == ("__classdict__":Str))=false:=by decide):PE X (.Name x pos) (HI i):=K2 hN hv hd hcd
end
theorem fZ {A B:Prop} (h:B):if false=true then A else B:=by
 rw [if_neg aY];exact h
theorem iL {A B:Prop} (h:A):if true=true then A else B:=by
 rw [if_pos rfl];exact h
theorem fV {c A B:Prop} [Decidable c] (h1:c->A) (h2:¬ c->B):if c then A else B:=by
 by_cases h:c
 ·rw [if_pos h];exact h1 h
 ·rw [if_neg h];exact h2 h
def bf (H H':Hp):Prop:=∀ b o,H b=some o->H' b=some o
theorem bf.refl (H:Hp):bf H H:=fun _ _ h=>h
theorem bf.trans {H H1 H2:Hp} (a:bf H H1) (b:bf H1 H2):bf H H2:=fun c o h=>b c o (a c o h)
theorem bf.free {H H':Hp} (e:bf H H') {l:aa} (h:H' l=Option.none):H l=Option.none:=by
 cases q:H l with
 | none=>rfl
 | some o =>
  rw [e l o q] at h
  cases h
section
variable {κ:Type} [DecidableEq κ]
def jn (kvs:List (κ×V)) (k:κ):Option V:=(kvs.find? fun kv=>decide (kv.1=k)).map (·.2)
def iE (kvs:List (κ×V)) (k:κ) (v:V):List (κ×V):=
 if (kvs.any fun kv=>decide (kv.1=k))=true then kvs.map (fun kv=>if kv.1=k then (kv.1,v) else kv) else kvs++[(k,v)]
theorem oK {p:κ×V} {r:List (κ×V)} {k:κ} (e:p.1=k):jn (p :: r) k=some p.2:=by simp [jn,iX,e]
theorem oM {p:κ×V} {r:List (κ×V)} {k:κ} (e:¬ p.1=k):jn (p :: r) k=jn r k:=by simp [jn,iX,e]
theorem jJ (k:κ):∀ kvs:List (κ×V),(kvs.any fun kv=>decide (kv.1=k))=(jn kvs k).isSome
 | []=>rfl
 | p :: r=>by
  rw [jU]
  by_cases e:p.1=k
  ·simp only [oK e,decide_eq_true e,Bool.true_or,Option.isSome_some]
  ·rw [oM e,decide_eq_false e,Bool.false_or]; exact jJ k r
theorem kR (kvs:List (κ×V)) (k:κ) (v:V):(iE kvs k v).length<=kvs.length + 1:=by
 unfold iE
 split
 ·rw [ar]; omega
 ·rw [aA,aT,cK]; omega
theorem yP {kvs:List (κ×V)} {k:κ} (v:V) (h:jn kvs k=none):iE kvs k v=kvs++[(k,v)]:=by
 unfold iE;rw [jJ,h];exact if_neg (by decide)
theorem pX.isSome_eq {o:Option V} {u:Option ae} (r:pX o u):o.isSome=u.isSome:=by
 cases o with
 | none=>cases u with
  | none=>rfl
  | some _=>exact (show False from r).elim
 | some _=>cases u with
  | none=>exact (show False from r).elim
  | some _=>rfl
theorem KV.val {kvs:List (κ×V)} {vs:List (κ×ae)} (r:KV kvs vs) (k:κ):pX (jn kvs k) (oq vs k):=by
 unfold KV at r
 induction r with
 | nil=>exact True.intro
 | @cons p q ps qs h t ih =>
  obtain ⟨h1,h2⟩:=h
  by_cases e:p.1=k
  ·have e':q.1=k:=h1.symm.trans e;have b:oq (q :: qs) k=some q.2:=by simp [oq,iX,e']
   rw [oK e,b]; exact h2
  ·have e':¬ q.1=k:=fun z=>e (h1.trans z);have b:oq (q :: qs) k=oq qs k:=by simp [oq,iX,e']
   rw [oM e,b]; exact ih
theorem KV.any {kvs:List (κ×V)} {vs:List (κ×ae)} (r:KV kvs vs) (k:κ):(kvs.any fun kv=>decide (kv.1=k))=vs.any fun kv=>decide (kv.1=k):=by
 unfold KV at r
 induction r with
 | nil=>rfl
 | cons h t ih=>rw [jU,jU,ih,h.1]
theorem KV.repl {kvs:List (κ×V)} {vs:List (κ×ae)} (r:KV kvs vs) (k:κ) {y:V} {u:ae} (ry:RelV y u) :
  KV (kvs.map fun kv=>if kv.1=k then (kv.1,y) else kv) (vs.map fun kv=>if kv.1=k then (kv.1,u) else kv):=by
 unfold KV at r |-
 induction r with
 | nil=>exact .nil
 | @cons p q ps qs h t ih =>
  rw [bQ,bQ];refine .cons ?_ ih;obtain ⟨h1,h2⟩:=h
  by_cases e:p.1=k
  ·rw [if_pos e,if_pos (h1.symm.trans e)]; exact ⟨h1,ry⟩
  ·rw [if_neg e,if_neg (fun z=>e (h1.trans z))]; exact ⟨h1,h2⟩
theorem KV.put {kvs:List (κ×V)} {vs:List (κ×ae)} (r:KV kvs vs) (k:κ) {y:V} {u:ae} (ry:RelV y u):KV (iE kvs k y) (uN vs k u):=by
 unfold iE uN;rw [r.any k]
 by_cases e:(vs.any fun kv=>decide (kv.1=k))=true
 ·rw [if_pos e,if_pos e]; exact r.repl k ry
 ·rw [if_neg e,if_neg e]; exact eD r ⟨rfl,ry⟩
theorem KV.length {kvs:List (κ×V)} {vs:List (κ×ae)} (r:KV kvs vs):kvs.length=vs.length:=aZ r
end
theorem uO {P:aJ} {w:bJ} {k:Key} {u:ae} (r:RelV (kV k) u):(eM P w).is k u=true:=by
 cases k with
 | inl i=>obtain ⟨t,e⟩:=(show ∃ t,u=Value.int i t from r); subst e; exact yJ P w i t
 | inr x=>obtain ⟨t,e⟩:=(show ∃ t,u=Value.str x t from r); subst e; exact yK P w x t
theorem wK {P:aJ} {w:bJ}:∀ {ks:List Key} {us:List ae},cU (ks.map kV) us->ItemsAre (eM P w) ks us
 | [],_,r=>by rw [sW] at r; cases r; exact .nil
 | k :: ks,_,r=>by
  rw [bQ] at r
  cases r with
  | cons h t=>exact .cons (uO h) (wK t)
abbrev KT (H:Hp):List (List Key×V)->List (List Key×aa×ae)->Prop:=aP fun p q=>p.1=q.1/\H q.2.1=some (.tup (p.1.map kV))/\RelV p.2 q.2.2
theorem KT.val {H:Hp} {kvs:List (List Key×V)} {xs:List (List Key×aa×ae)} (r:KT H kvs xs) (k:List Key):pX (jn kvs k) ((Al xs k).map (·.2)):=by
 induction r with
 | nil=>exact True.intro
 | @cons p q ps qs h t ih =>
  obtain ⟨h1,_,h2⟩:=h
  by_cases e:p.1=k
  ·have e':q.1=k:=h1.symm.trans e;have b:Al (q :: qs) k=some q.2:=by simp [Al,iX,e']
   rw [oK e,b]; exact h2
  ·have e':¬ q.1=k:=fun z=>e (h1.trans z);have b:Al (q :: qs) k=Al qs k:=by simp [Al,iX,e']
   rw [oM e,b]; exact ih
theorem KT.repl {H:Hp} {kvs:List (List Key×V)} {xs:List (List Key×aa×ae)} (r:KT H kvs xs) (k:List Key) {y:V} {u:ae} (ry:RelV y u) :
  KT H (kvs.map fun kv=>if kv.1=k then (kv.1,y) else kv) (xs.map (putAt k u)):=by
 induction r with
 | nil=>exact .nil
 | @cons p q ps qs h t ih =>
  rw [bQ,bQ];refine .cons ?_ ih;obtain ⟨h1,h2,h3⟩:=h;unfold putAt
  by_cases e:p.1=k
  ·rw [if_pos e,if_pos (h1.symm.trans e)]; exact ⟨h1,h2,ry⟩
  ·rw [if_neg e,if_neg (fun z=>e (h1.trans z))]; exact ⟨h1,h2,h3⟩
theorem KT.put {H:Hp} {kvs:List (List Key×V)} {xs:List (List Key×aa×ae)} (r:KT H kvs xs) (k:List Key) {b:aa} {y:V} {u:ae} (hb:H b=some (.tup (k.map kV))) (ry:RelV y u) :
  KT H (iE kvs k y) (storedH xs k b u):=by
 have e:(kvs.any fun kv=>decide (kv.1=k))=(Al xs k).isSome:=by
  rw [jJ,(r.val k).isSome_eq,lD]
 unfold iE storedH;rw [e]
 by_cases q:(Al xs k).isSome=true
 ·rw [if_pos q,if_pos q]; exact r.repl k ry
 ·rw [if_neg q,if_neg q]; exact eD r ⟨rfl,hb,ry⟩
theorem KT.keeps {H H':Hp} {kvs:List (List Key×V)} {xs:List (List Key×aa×ae)} (r:KT H kvs xs) (ht:∀ b ys,H b=some (.tup ys)->H' b=some (.tup ys)):KT H' kvs xs:=
 Paired.mapP r fun _ _ z=>⟨z.1,ht _ _ z.2.1,z.2.2⟩
section
variable {P:aJ} {w:bJ} {H:Hp} {h:cu} {a:aa}
theorem JT {u:HO} (ok:HOk P w H h) (e:Rd H a u):eB P w H h a u:=e.ok ok
theorem yQ {kvs:List (Key×V)} (ok:HOk P w H h) (e:Rd H a (.dK kvs)):kvs.length<=aB/\(a == eQ)=false/\∃ vs,KV kvs vs/\h.DictOf (eM P w) a vs:=
 show eB P w H h a (.dK kvs) from JT ok e
theorem JU {kvs:List (Key×V)} (ok:HOk P w H h) (e:H a=some (.dK kvs)):kvs.length<=aB/\(a == eQ)=false/\∃ vs,KV kvs vs/\h.DictOf (eM P w) a vs:=yQ ok (.inl e)
theorem uP {ks:List Key} (ok:HOk P w H h) (e:H a=some (.tup (ks.map kV))):(xl (eM P w)).is h ks a:=by
 obtain ⟨_,its,r,o,h1,h2,n,h3⟩:=(show eB P w H h a (.tup (ks.map kV)) from ok a _ e);exact ⟨o,its.toArray,n,h1,h2,h3,by simpa using wK r⟩
theorem yR {kvs:List (List Key×V)} (ok:HOk P w H h) (e:Rd H a (.dT kvs)):kvs.length<=aB/\(a == eQ)=false /\
  ∃ xs,KT H kvs xs/\h.DictOfH (xl (eM P w)) a xs:=by
 obtain ⟨z,y,xs,r,o,es,ep,h1,h2,h3,h4,h5⟩:=(show eB P w H h a (.dT kvs) from JT ok e);refine ⟨z,y,xs,r,o,es,ep,h1,h2,h3,h4,fun x hx=>?_,h5⟩;have all:∀ {l:List (List Key×V)} {m:List (List Key×aa×ae)},KT H l m->∀ x∈m,(xl (eM P w)).is h x.1 x.2.1:=by
  intro l m q
  induction q with
  | nil=>intro x hx; exact nomatch hx
  | @cons p q ps qs hq t ih =>
   intro x hx
   rcases au.mp hx with e | hx
   ·subst e;exact uP ok (by rw [<- hq.1]; exact hq.2.1)
   ·exact ih x hx
 exact all r x hx
theorem dt_of {kvs:List (List Key×V)} (ok:HOk P w H h) (e:H a=some (.dT kvs)):kvs.length<=aB/\(a == eQ)=false /\
  ∃ xs,KT H kvs xs/\h.DictOfH (xl (eM P w)) a xs:=yR ok (.inl e)
end
def nZ (H:Hp) (a:aa) (y:V) (r:Option V):Prop:=
 (∃ kvs k,Rd H a (.dK kvs)/\y=kV k/\r=jn kvs k)\/∃ kvs k b,Rd H a (.dT kvs)/\y=.ref b/\H b=some (.tup (k.map kV))/\r=jn kvs k
def qO (H:Hp) (a:aa) (y v:V) (H':Hp):Prop:=
 (∃ kvs k,H a=some (.dK kvs)/\y=kV k/\kvs.length < aB/\H'=upd H a (.dK (iE kvs k v))) \/
 ∃ kvs k b,H a=some (.dT kvs)/\y=.ref b/\H b=some (.tup (k.map kV))/\kvs.length < aB/\H'=upd H a (.dT (iE kvs k v))
theorem nZ.k {H:Hp} {a:aa} {kvs:List (Key×V)} {k:Key} (e:H a=some (.dK kvs)):nZ H a (kV k) (jn kvs k):=.inl ⟨kvs,k,.inl e,rfl,rfl⟩
theorem qO.k {H:Hp} {a:aa} {kvs:List (Key×V)} {k:Key} {v:V} (e:H a=some (.dK kvs)) (hl:kvs.length < aB):qO H a (kV k) v (upd H a (.dK (iE kvs k v))):=.inl ⟨kvs,k,e,rfl,hl,rfl⟩
section
variable {X:Cx} {pins:List (aa×Obj)} {σ:St} {H:Hp} {s:ak} {a:aa} {y v:V} {u r:ae} {o:Option V} {A:bS} {E:ae->ak->Prop}
theorem Inv.big (I:Inv X pins σ H s):eQ < s.heap.objs.size:=by
 have h:aW < s.heap.objs.size:=(I.mod.glob.keeps I.bk).lt;exact oN (by decide) h
theorem Cv {Q:ae->ak->Prop} (hu:A.units + 1 < eO) (I:Inv X pins σ H s) (g:nZ H a y (some v)) (ry:RelV y u) (h:∀ w' s',Inv X pins σ H s'->RelV v w'->Q w' s') :
  aU (aX X.prog X.w) A (zQ (.ref a) u) Q E s:=by
 rcases g with ⟨kvs,k,e,ey,l⟩ | ⟨kvs,k,b,e,ey,eb,l⟩
 ·subst ey;obtain ⟨z,hd,vs,rel,dd⟩:=yQ I.hok e;obtain ⟨w',hw,rw'⟩:=pX.some_of (v:=v) (o:=oq vs k) (by rw [l]; exact rel.val k);exact wpAny_getItem_of (uO ry) dd.mapOf hw (h w' _ (I.tok _) rw')
 ·subst ey
  cases (show u=Value.ref b from ry);obtain ⟨z,hd,xs,rel,dd⟩:=yR I.hok e;obtain ⟨w',hw,rw'⟩:=pX.some_of (v:=v) (o:=(Al xs k).map (·.2)) (by rw [l]; exact rel.val k);obtain ⟨p,hp,hp2⟩:=jk.mp hw;refine wpAny_getItem_heap (mQ hu) (uP I.hok eb) dd hp ?_;rw [hp2];exact h w' _ (I.tok _) rw'
theorem d_in {Q:ae->ak->Prop} (hu:A.units + 1 < eO) (I:Inv X pins σ H s) (g:nZ H a y o) (ry:RelV y u) (h:∀ s',Inv X pins σ H s'->Q (.bool o.isSome) s') :
  aU (aX X.prog X.w) A (dv .In u (.ref a)) Q E s:=by
 rcases g with ⟨kvs,k,e,ey,l⟩ | ⟨kvs,k,b,e,ey,eb,l⟩
 ·subst ey;obtain ⟨z,hd,vs,rel,dd⟩:=yQ I.hok e;refine wpAny_in_of (uO ry) hd dd.mapOf ?_;rw [<- (rel.val k).isSome_eq,<- l];exact h _ (I.tok _)
 ·subst ey
  cases (show u=Value.ref b from ry);obtain ⟨z,hd,xs,rel,dd⟩:=yR I.hok e;refine wpAny_in_heap (mQ hu) (uP I.hok eb) hd dd ?_;have q:=(rel.val k).isSome_eq;rw [lD] at q;rw [<- q,<- l];exact h _ (I.tok _)
theorem Ib {Q:ae->ak->Prop} (hu:A.units + 1 < eO) (I:Inv X pins σ H s) (g:nZ H a y o) (ry:RelV y u) (h:∀ s',Inv X pins σ H s'->Q (.bool (!o.isSome)) s') :
  aU (aX X.prog X.w) A (dv .NotIn u (.ref a)) Q E s:=by
 rcases g with ⟨kvs,k,e,ey,l⟩ | ⟨kvs,k,b,e,ey,eb,l⟩
 ·subst ey;obtain ⟨z,hd,vs,rel,dd⟩:=yQ I.hok e;refine wpAny_notIn_of (uO ry) hd dd.mapOf ?_;rw [<- (rel.val k).isSome_eq,<- l];exact h _ (I.tok _)
 ·subst ey
  cases (show u=Value.ref b from ry);obtain ⟨z,hd,xs,rel,dd⟩:=yR I.hok e;refine wpAny_notIn_heap (mQ hu) (uP I.hok eb) hd dd ?_;have q:=(rel.val k).isSome_eq;rw [lD] at q;rw [<- q,<- l];exact h _ (I.tok _)
theorem xC {h':cu} {t':Nat} {ob:HO} (I:Inv X pins σ H s) (mu:Mut (H a)) (hs:sP a s.heap h') (he:∃ q,h'.get? a=some q) (new:eB X.prog X.w (upd H a ob) h' a ob) :
  Inv X pins σ (upd H a ob) {s with heap:=h',toks:=t'}:=
 I.write (x:=a) (e:=a) mu (.inl rfl) (fun b q hb z=>(hs.2 b hb).trans z) he new
theorem xH {P:aJ} {w:bJ} {H':Hp} {h':cu} {kvs:List (Key×V)} {vs:List (Key×ae)} (z:kvs.length<=aB) (hd:(a == eQ)=false) (rel:KV kvs vs) (dd:h'.DictOf (eM P w) a vs) :
  eB P w H' h' a (.dK kvs):=⟨z,hd,vs,rel,dd⟩
theorem Cw {H':Hp} {Q:Unit->ak->Prop} (hu:A.units + 1 < eO) (I:Inv X pins σ H s) (g:qO H a y v H') (ry:RelV y u) (rv:RelV v r) (h:∀ s',Inv X pins σ H' s'->Q () s') :
  aU (aX X.prog X.w) A (setItem (.ref a) u r) Q E s:=by
 rcases g with ⟨kvs,k,e,ey,l,eH⟩ | ⟨kvs,k,b,e,ey,eb,l,eH⟩
 ·subst ey eH;obtain ⟨z,hd,vs,rel,dd⟩:=JU I.hok e;have hz:vs.length<=aB:=by rw [<- rel.length]; exact z
  have hl:(iE kvs k v).length<=aB:=by have:=kR kvs k v; omega
  refine wpAny_setItem_pairs (hsz:=hz) (uO ry) dd fun h' dd' hs=>h _ ?_;have he:∃ q,h'.get? a=some q:=let ⟨q,_,_,hq,_⟩:=dd'; ⟨q,hq⟩;exact xC I (by rw [e]; exact True.intro) hs he (xH hl hd (rel.put k rv) dd')
 ·subst ey eH
  cases (show u=Value.ref b from ry);obtain ⟨z,hd,xs,rel,dd⟩:=dt_of I.hok e;have hz:xs.length<=aB:=by rw [<- aZ rel]; exact z
  have hl:(iE kvs k v).length<=aB:=by have:=kR kvs k v; omega
  refine wpAny_setItem_heap (hsz:=hz) (mQ hu) (uP I.hok eb) dd fun h' dd' hs=>h _ ?_;obtain ⟨q,es,ep,hq,h2,h3,h4,_,h5⟩:=dd';refine xC I (by rw [e]; exact True.intro) hs ⟨q,hq⟩ ⟨hl,hd,_,(rel.put k eb rv).keeps fun c ys ec=>?_,q,es,ep,hq,h2,h3,h4,h5⟩;rw [aH (nF ec e (fun z=>nomatch z))];exact ec
end
section
variable {X:Cx} {pins:List (aa×Obj)} {σ:St} {H:Hp} {s:ak} {a:aa} {kvs:List (Key×V)} {k:Key} {u:ae} {A:bS} {E:ae->ak->Prop}
end
def NoSl (i:cM):Prop:=∀ ov iv,yC i false ov iv=operate [ov,iv] (zQ ov iv)
theorem Ic {prog:aJ} {w:bJ} {A:bS} {E:ae->ak->Prop} {s:ak} {env:Env} {value slice:cM} {pos:Pos} {T id:String} {Q:ae->ak->Prop}
  (hl:Le (.type T) "__getitem__"=pure (some (.builtin id))) (hs:NoSl slice)
  (h:aU (aX prog w) A (fc value env) (fun o s₁=>aU (aX prog w) A (fc slice env) (fun i s₂=>s₂.TypeIs o T/\aU (aX prog w) A (zQ o i) Q E s₂) E s₁) E s) :
  aU (aX prog w) A (fc (.Subscript value slice pos) env) Q E s:=by
 refine Lg (d7 h (fun o s₁ h₁=>d7 h₁ (fun i s₂ h₂=>?_) fun _ _ x=>x) fun _ _ x=>x);obtain ⟨hT,h₂⟩:=h₂;unfold Ct;refine aq ?_;rw [getitemInPython_of_ne hT.not_modules];refine aq (wpAny_specialOf hT hl ?_);have fin:aU (aX prog w) A (yC slice false o i) (fun r s₃=>aU (aX prog w) A (letTemporaryGo value o r >>= fun _=>pure r) Q E s₃) E s₂:=by
  rw [hs o i];exact wpAny_operating (d7 h₂ (fun r s₃ h₃=>aq (wpAny_letTemporaryGo (aV h₃))) fun _ _ x=>x)
 first
  | exact aV (aq fin)
  | exact aq (aV (aq fin))
  | exact aq fin
theorem yS {X:Cx} {pins:List (aa×Obj)} {σ:St} {H:Hp} {s:ak} {a:aa} {y:V} {o:Option V} (I:Inv X pins σ H s) (g:nZ H a y o):s.TypeIs (.ref a) "dict":=by
 rcases g with ⟨kvs,k,e,_,_⟩ | ⟨kvs,k,b,e,_,_,_⟩
 ·obtain ⟨_,_,vs,_,dd⟩:=yQ I.hok e;exact dd.typeIs
 ·obtain ⟨_,_,xs,_,dd⟩:=yR I.hok e;exact dd.typeIs
inductive DGI (x y:V) (H:Hp) (Q:VK):Prop where
 | mk (a:aa) (v:V) (hx:x=.ref a) (d:nZ H a y (some v)) (q:Q v H):DGI x y H Q
def tDGet (td ty:TE):TE:=fun σ H Q=>td σ H fun x H1=>ty σ H1 fun y H2=>DGI x y H2 Q
def tDIn (ty td:TE):TE:=fun σ H Q=>ty σ H fun y H1=>td σ H1 fun x H2=>∃ a o,x=.ref a/\nZ H2 a y o/\Q (.bl o.isSome) H2
def Ie (ty td:TE):TE:=fun σ H Q=>ty σ H fun y H1=>td σ H1 fun x H2=>∃ a o,x=.ref a/\nZ H2 a y o/\Q (.bl (!o.isSome)) H2
def sDPut (td ty tv:TE):TS:=fun D σ H=>tv σ H fun v H1=>td σ H1 fun x H2=>ty σ H2 fun y H3=>∃ a H4,x=.ref a/\qO H3 a y v H4/\D.nx σ H4
section
variable {X:Cx} {o i e value:cM} {pos pos' tpos:Pos} {td ty tv:TE}
theorem pO (hu:X.A.units + 1 < eO) (ho:PE X o td) (hi:PE X i ty) (hs:NoSl i):PE X (.Subscript o i pos) (tDGet td ty):=by
 intro pins s σ H Q I h;refine Ic PySem.F.slot_dict_getitem.lookup hs (thn (ho pins s σ H _ I h) fun u s1 ⟨x,H1,I1,rx,q1⟩=>thn (hi pins s1 σ H1 _ I1 q1) fun iv s2 ⟨y,H2,I2,ry,a,v,ex,g,q2⟩=>?_);subst ex;obtain rfl:u=Value.ref a:=rx;exact ⟨yS I2 g,Cv hu I2 g ry fun w' s3 I3 rw'=>⟨v,H2,I3,rw',q2⟩⟩
theorem EN (hu:X.A.units + 1 < eO) (hi:PE X i ty) (ho:PE X o td):PC X .In i o (tDIn ty td):=by
 intro pins s σ H Q I h;refine thn (hi pins s σ H _ I h) fun iv s1 ⟨y,H1,I1,ry,q1⟩=>thn (ho pins s1 σ H1 _ I1 q1) fun u s2 ⟨x,H2,I2,rx,a,ov,ex,g,q2⟩=>?_;subst ex;obtain rfl:u=Value.ref a:=rx;exact d_in hu I2 g ry fun s3 I3=>⟨.bl ov.isSome,H2,I3,rfl,q2⟩
theorem Cy (hu:X.A.units + 1 < eO) (hi:PE X i ty) (ho:PE X o td):PC X .NotIn i o (Ie ty td):=by
 intro pins s σ H Q I h;refine thn (hi pins s σ H _ I h) fun iv s1 ⟨y,H1,I1,ry,q1⟩=>thn (ho pins s1 σ H1 _ I1 q1) fun u s2 ⟨x,H2,I2,rx,a,ov,ex,g,q2⟩=>?_;subst ex;obtain rfl:u=Value.ref a:=rx;exact Ib hu I2 g ry fun s3 I3=>⟨.bl (!ov.isSome),H2,I3,rfl,q2⟩
theorem jZ (hu:X.A.units + 1 < eO) (ho:PE X o td) (hi:PE X i ty) (hv:PE X value tv) (hs:sR value (some (.Subscript o i pos')) pos.line X.env=pure false) :
  PS X (.Assign [.Subscript o i pos'] value pos) (sDPut td ty tv):=by
 intro pins s σ H D I h;refine wpAny_Assign_Subscript (thn (hv pins s σ H _ I h) fun r s1 ⟨v,H1,I1,rv,q1⟩=>thn (ho pins s1 σ H1 _ I1 q1) fun u s2 ⟨x,H2,I2,rx,q2⟩=>thn (hi pins s2 σ H2 _ I2 q2) fun iv s3 ⟨y,H3,I3,ry,a,H4,ex,g,q3⟩=>?_) hs;subst ex;obtain rfl:u=Value.ref a:=rx;exact Cw hu I3 g ry rv fun s4 I4=>⟨σ,H4,I4,q3⟩
end
theorem yT {P:aJ} {w:bJ} {H:Hp} (h:cu) (hb:eQ < h.objs.size):eB P w H (h.push {cls:=.type "dict",data:=.dict #[]}) h.objs.size (.dK []):=
 ⟨bT _,beq_eq_false_iff_ne.mpr (fj (aO hb)),[],.nil,zR h⟩
def Lp:TE:=fun _ H Q=>∀ p,H p=none->Q (.ref p) (upd H p (.dK []))
section
variable {X:Cx} {pos:Pos}
theorem oO:PE X (.Dict [] [] pos) Lp:=fun pins s σ H Q I h =>
 wpAny_Dict_empty ⟨.ref s.heap.objs.size,_,I.laid (a:=s.heap.objs.size) (o:=.dK []) (t':=s.toks) (fun _ _ q=>aI _ q) (aC _) (yT s.heap I.big),rfl,h _ (I.hok.fresh (aC _))⟩
end
def Am:List (TE×TE)->St->Hp->(List (V×V)->Hp->Prop)->Prop
 | [],_,H,Q=>Q [] H
 |(tk,tv) :: r,σ,H,Q=>tk σ H fun x H1=>tv σ H1 fun y H2=>Am r σ H2 fun ps H3=>Q ((x,y) :: ps) H3
abbrev VV:List (V×V)->List (ae×ae)->Prop:=aP fun p q=>RelV p.1 q.1/\RelV p.2 q.2
def PPs (X:Cx) (pos:Pos) (keys:List (Option cM)) (values:List cM) (trs:List (TE×TE)):Prop:=
 ∀ (pins:List (aa×Obj)) (s:ak) (σ:St) (H:Hp) (Q:List (V×V)->Hp->Prop),Inv X pins σ H s->Am trs σ H Q ->
  aU (aX X.prog X.w) X.A (evalPairs (pairTrees keys values X.env pos)) (fun vs s'=>∃ ps H',Inv X pins σ H' s'/\VV ps vs/\Q ps H') X.xe s
theorem Bc {X:Cx} {pos:Pos}:PPs X pos [] [] []:=fun pins s σ H Q I h=>pairTrees_nil_walk ⟨[],H,I,.nil,h⟩
theorem yU {X:Cx} {pos:Pos} {k v:cM} {ks:List (Option cM)} {vs:List cM} {tk tv:TE} {trs:List (TE×TE)} (hk:PE X k tk) (hv:PE X v tv) (hr:PPs X pos ks vs trs) :
  PPs X pos (some k :: ks) (v :: vs) ((tk,tv) :: trs):=fun pins s σ H Q I h =>
 pairTrees_cons_walk (thn (hk pins s σ H _ I h) fun u s1 ⟨x,H1,I1,rx,q1⟩=>thn (hv pins s1 σ H1 _ I1 q1) fun w2 s2 ⟨y,H2,I2,ry,q2⟩ =>
  thn (hr pins s2 σ H2 _ I2 q2) fun ws s3 ⟨ps,H3,I3,rel,q3⟩=>⟨(x,y) :: ps,H3,I3,.cons ⟨rx,ry⟩ rel,q3⟩)
def j8 (kvs more:List (Key×V)):List (Key×V):=more.foldl (fun acc kv=>iE acc kv.1 kv.2) kvs
theorem KV.merge:∀ {more:List (Key×V)} {rs:List (Key×ae)} {kvs:List (Key×V)} {vs:List (Key×ae)},KV more rs->KV kvs vs->KV (j8 kvs more) (merged vs rs):=by
 intro more rs kvs vs r;unfold KV at r
 induction r generalizing kvs vs with
 | nil=>intro q; exact q
 | @cons p q ps qs h t ih =>
  intro r0;have e:KV (iE kvs p.1 p.2) (uN vs q.1 q.2):=by
   have:=r0.put p.1 h.2;rw [<- h.1]; exact this
  exact ih e
theorem qc:∀ (more kvs:List (Key×V)),(j8 kvs more).length<=kvs.length + more.length
 | [],kvs=>by show kvs.length<=kvs.length + 0; omega
 | p :: r,kvs=>by
  have h1:=qc r (iE kvs p.1 p.2);have h2:=kR kvs p.1 p.2;show (j8 (iE kvs p.1 p.2) r).length<=_;rw [aT]; omega
theorem uQ {P:aJ} {w:bJ}:∀ {kvs:List (Key×V)} {ws:List (ae×ae)},VV (kvs.map fun kv=>(kV kv.1,kv.2)) ws->∃ rs,Carries (eM P w) ws rs/\KV kvs rs
 | [],_,r=>by rw [sW] at r; cases r; exact ⟨[],True.intro,.nil⟩
 | p :: kvs,_,r=>by
  rw [bQ] at r
  cases r with
  | @cons a b as bs h t =>
   obtain ⟨rs,c,q⟩:=uQ (P:=P) (w:=w) t;obtain ⟨b1,b2⟩:=b;exact ⟨(p.1,b2) :: rs,⟨uO h.1,rfl,c⟩,.cons ⟨rfl,h.2⟩ q⟩
def tDisp (trs:List (TE×TE)):TE:=fun σ H Q=>∀ p,H p=none->Am trs σ (upd H p (.dK [])) fun ps H2=>H2 p=some (.dK [])/\∃ kvs:List (Key×V),ps=kvs.map (fun kv=>(kV kv.1,kv.2))/\kvs.length<=15/\Q (.ref p) (upd H2 p (.dK (j8 [] kvs)))
theorem Bd {X:Cx} {pos:Pos} {keys:List (Option cM)} {values:List cM} {trs:List (TE×TE)} (h:PPs X pos keys values trs) (hall:keys.all (·.isSome)=true) (hl:keys.length=values.length) (h0:keys≠[])
  (h15:keys.length<=15):PE X (.Dict keys values pos) (tDisp trs):=by
 intro pins s σ H Q I q;have hn:=I.hok.fresh (aC s.heap.objs.size);have I1:=I.laid (a:=s.heap.objs.size) (o:=.dK []) (h':=s.heap.push {cls:=.type "dict",data:=.dict #[]}) (t':=s.toks) (fun _ _ q=>aI _ q) (aC _) (yT s.heap I.big);refine wpAny_Dict_walk (knd:=eM X.prog X.w) hall hl h0 h15 (thn (h pins _ σ _ _ I1 (q _ hn)) fun ws s2 ⟨ps,H2,I2,rel,e,kvs,ep,lk,q2⟩=>?_);subst ep;obtain ⟨rs,c,rk⟩:=uQ (P:=X.prog) (w:=X.w) rel;obtain ⟨z,hd,vs0,r0,dd⟩:=JU I2.hok e
 cases r0;refine ⟨rs,c,dd,fun h' dd' hs=>⟨.ref s.heap.objs.size,_,?_,rfl,q2⟩⟩;have hz:(j8 [] kvs).length<=aB:=by
  have h1:=qc kvs [];rw [cK] at h1;rw [kH]; omega
 have he:∃ q,h'.get? s.heap.objs.size=some q:=let ⟨q,_,_,hq,_⟩:=dd'; ⟨q,hq⟩;exact xC I2 (by rw [e]; exact True.intro) hs he (xH hz hd (rk.merge .nil) dd')
section
variable {X:Cx} {pins:List (aa×Obj)} {σ:St} {H:Hp} {s:ak} {a:aa} {y d:V} {u r:ae} {o:Option V} {A:bS} {E:ae->ak->Prop}
end
section
variable {X:Cx} {o e f:cM} {apos cpos:Pos} {td ty tx:TE}
end
section
variable {X:Cx} {pins:List (aa×Obj)} {σ:St} {H:Hp} {s:ak} {a:aa} {kvs:List (Key×V)} {A:bS} {E:ae->ak->Prop}
end
section
variable {X:Cx} {pins:List (aa×Obj)} {σ:St} {H:Hp} {s:ak} {a:aa} {y:V} {u:ae} {A:bS} {E:ae->ak->Prop}
end
section
variable {X:Cx}
end
section
variable {κ:Type} [DecidableEq κ]
theorem EO {kvs:List (κ×V)} {k:κ} (h:jn kvs k=none):¬ k∈kvs.map (·.1):=by
 intro m;obtain ⟨p,hp,e⟩:=cC.mp m;have q:(kvs.any fun kv=>decide (kv.1=k))=true:=Hx.mpr ⟨p,hp,decide_eq_true e⟩;rw [jJ,h] at q;exact absurd q (by simp)
theorem Be {kvs:List (κ×V)} {k:κ} {v:V} (h:jn kvs k=some v):k∈kvs.map (·.1):=by
 have q:(kvs.any fun kv=>decide (kv.1=k))=true:=by
  rw [jJ,h]
  all_goals rfl
 obtain ⟨p,hp,e⟩:=Hx.mp q;exact cC.mpr ⟨p,hp,of_decide_eq_true e⟩
theorem xI:∀ {l:List κ} {k:κ},l.Nodup->¬ k∈l->(l++[k]).Nodup
 | [],k,_,_=>by simp
 | a :: r,k,h,hk=>by
  obtain ⟨h1,h2⟩:=cF.mp h;show (a :: (r++[k])).Nodup;refine cF.mpr ⟨fun m=>?_,xI h2 fun m=>hk (au.mpr (Or.inr m))⟩
  rcases cq.mp m with q | q
  ·exact h1 q
  ·exact hk (au.mpr (Or.inl (aD.mp q).symm))
end
end L2
set_option maxHeartbeats 4000000
namespace L2
open PySem PySem.Spec PyProof.Rows
theorem eB.has {P:aJ} {w:bJ} {H:Hp} {h:cu} {a:aa} {o:HO} (x:eB P w H h a o):∃ ob,h.get? a=some ob:=by
 cases o with
 | lst xs=>obtain ⟨_,_,_,_,e⟩:=x; exact ⟨_,e⟩
 | tup xs=>obtain ⟨_,_,_,ob,e,_⟩:=x; exact ⟨_,e⟩
 | dK kvs=>obtain ⟨_,_,_,_,o,_,_,e,_⟩:=x; exact ⟨_,e⟩
 | dT kvs=>obtain ⟨_,_,_,_,o,_,_,e,_⟩:=x; exact ⟨_,e⟩
 | set S n=>obtain ⟨o,_,_,_,e,_⟩:=x; exact ⟨_,e⟩
 | ins C dx fs=>obtain ⟨_,_,_,e,_⟩:=x; exact ⟨_,e⟩
 | own y=>exact x
 | xd fs=>obtain ⟨_,⟨_,_,_,e,_⟩,_⟩:=x; exact ⟨_,e⟩
 | rng lo hi=>obtain ⟨_,_,_,e⟩:=x; exact ⟨_,e⟩
 | frz ob u=>obtain ⟨e,_⟩:=x; exact ⟨_,e⟩
 | tbl ps=>exact ⟨_,(show h.get? a=some _ from x)⟩
 | met f y=>exact ⟨_,(show h.get? a=some _ from x)⟩
 | ext φ=>obtain ⟨_,e,_⟩:=x; exact e
theorem HOk.has {P:aJ} {w:bJ} {H:Hp} {h:cu} (x:HOk P w H h) {b:aa} (n:H b≠none):∃ ob,h.get? b=some ob:=by
 cases z:H b with
 | none=>exact absurd z n
 | some u=>exact (x b u z).has
def FlD (B:cu) (l:List Env) (e:aa) (cls fl:ae) (h:cu):Prop:=
 B.StaysIn h/\B.get? e=none/\h.FunFrames B l/\∃ oe vs T oT ts,h.get? e=some oe/\oe.cls=cls/\oe.dict=none/\oe.data=.fields vs/\vs[1]?=some (.ref T)/\B.get? T=none/\T≠e/\h.get? T=some oT/\oT.data=.fields ts/\ts[3]?=some fl
theorem Cz (o:Obj) (f:Array ae->Array ae):(o.mapFields f).dict=o.dict:=by
 obtain ⟨c,d,dt,sl⟩:=o
 cases dt <;> rfl
section
variable {M:HH} {A:bS} {E:ae->ak->Prop} {s:ak} {B:cu} {env:Env} {outer l:List Env} {L e:aa} {cls fl:ae} {Q:Unit->ak->Prop}
theorem yV {oe:Obj} {vs:Array ae} {head:ae} {nx:Bool} (hfr:A.frames=some (env :: outer)) (hl:s.heap.FunFrames B (env :: outer)) (hf:env.frame=some L) (he:s.heap.get? e=some oe) (hB:B.StaysIn s.heap) (hn:B.get? e=none)
  (hd:oe.data=.fields vs) (hz:1 < vs.size) (hdc:oe.dict=none) (k:∀ h',FlD B (env :: outer) e oe.cls (rH L) h'->s.heap.UpToSlots h'->Q () {s with heap:=h'}) :
  aU M A (do let a <- frameOf env; let pl <- entryPlaceOf L nx; let b <- xJ head a .none (rH L) .none pl; setField (.ref e) 1 b) Q E s:=by
 have ef:e∉(env :: outer).filterMap (·.frame):=fun hm=>by
  obtain ⟨_,o,ho,q⟩:=hl.mem hm;rw [he] at ho
  cases ho;exact q vs hd
 refine aq (wpAny_frameOf_fun hfr hl hf fun h1 g1=>aq (wpAny_entryPlaceOf fun pl hpl=>?_));unfold xJ newFields;refine aq (Nd ?_ (hpl.sizeOk5 _ _ _ _ _));have e1:h1.get? e=some oe:=(g1.2.1 e ef).trans he;have b1:B.StaysIn h1:=fun b o z=>(g1.2.1 b fun hm=>by rw [(hl.mem hm).1] at z; cases z).trans (hB b o z);have ne:h1.objs.size≠e:=oC (aN e1);generalize hob:({cls:=.type "traceback",dict:=none,data:=.fields ([head,.ref L,.none,rH L,.none]++(if pl.isEmpty then cB 6 Value.none else pl)).toArray}:Obj)=ob;have e2:(h1.push ob).get? e=some oe:=aI _ e1;have t2:(h1.push ob).get? h1.objs.size=some ob:=cj h1 (by rw [<- hob]; rfl);refine An e2 hd hz (k _ ?_ ?_)
 ·have d3:=rR hd (·.setIfInBounds 1 (Value.ref h1.objs.size));have keep:∀ b o,b≠e->h1.get? b=some o->((h1.push ob).update e (rB (·.setIfInBounds 1 (Value.ref h1.objs.size)))).get? b=some o:=fun b o q z=>by
   rw [e8 _ _ (fj q)];exact aI _ z
  refine ⟨fun b o z=>keep b o (fun q=>by rw [q,hn] at z; cases z) (b1 b o z),hn,hl.of_keeps fun b o z q=>?_,_,_,h1.objs.size,ob,_,pK _ e2 (Bf d3),Obj.cls_mapFields _ _,(Cz _ _).trans hdc,d3,by simp [hz],b1.fresh,ne,?_,by rw [<- hob],?_⟩
  ·obtain ⟨sl,w⟩:=g1.2.2 b o z;exact ⟨_,keep b _ (fun y=>by rw [y,he] at z; cases z; exact q vs hd) w,rfl⟩
  ·rw [e8 _ _ (fj ne)];exact t2
  ·first | (simp; done) | (rcases hpl with rfl | ⟨_,_,_,_,_,_,_,rfl⟩ <;> simp)
 ·intro b o z q;obtain ⟨sl,w⟩:=g1.2.2 b o z;refine ⟨sl,?_⟩;rw [e8 _ _ (fun y=>by rw [<- y,he] at z; cases z; exact q vs hd)];exact aI _ w
theorem tY {T:aa} {oT:Obj} {ts:Array ae} {h:cu} (hT:h.get? T=some oT) (hdT:oT.data=.fields ts) {b:aa} {o:Obj} (hb:h.get? b=some o) (q:∀ vs,o.data≠.fields vs):b≠T:=fun y=>by
 rw [y,hT] at hb
 cases hb;exact q ts hdT
theorem xK (hfr:A.frames=some (env :: outer)) (hf:env.frame=some L) (x:FlD B (env :: outer) e cls .none s.heap) (k:∀ h',FlD B (env :: outer) e cls (rH L) h'->s.heap.UpToSlots h'->Q () {s with heap:=h'}) :
  aU M A (DZ (.ref e) env) Q E s:=by
 obtain ⟨hB,hn,hl,oe,vs,T,oT,ts,he,rfl,hdc,hd,h1,nT,Te,hT,dT,h3⟩:=x;unfold DZ;simp only [hf];refine aq (yD he hd h1 ?_);rw [if_pos (show (Value.ref T != Value.none)=true from by simp)];refine aq (yD hT dT h3 ?_);rw [if_neg (show ¬ ((Value.none == rH L)=true) from by simp [rH])];refine aq (An hT dT (kL.mp h3).1 ?_);have ot:∀ b,b≠T->(s.heap.update T (rB (·.setIfInBounds 3 Value.none))).get? b=s.heap.get? b:=fun b hb=>e8 _ _ (fj hb);refine yV (s:={s with heap:=s.heap.update T (rB (·.setIfInBounds 3 Value.none))}) hfr (hl.of_keeps fun b o z q=>⟨o,(ot b (tY hT dT z q)).trans z,rfl⟩) hf ((ot e (fj Te)).trans he)
  (fun b o z=>(ot b fun y=>by rw [y,nT] at z; cases z).trans (hB b o z)) hn hd (kL.mp h1).1 hdc fun h' y1 y2=>k h' y1 fun b o z q=>y2 b o ((ot b (tY hT dT z q)).trans z) q
theorem oP (x:FlD B l e cls fl s.heap) (k:∀ h',FlD B l e cls .none h'->s.heap.UpToSlots h'->Q () {s with heap:=h'}):aU M A (setFlight (.ref e) none) Q E s:=by
 obtain ⟨hB,hn,hl,oe,vs,T,oT,ts,he,hc,hdc,hd,h1,nT,Te,hT,dT,h3⟩:=x;have z3:3 < ts.size:=(kL.mp h3).1;have ot:∀ b,b≠T->(s.heap.update T (rB (·.setIfInBounds 3 ((none:Option aa).elim Value.none fun f=>rH f)))).get? b=s.heap.get? b:=fun b hb=>e8 _ _ (fj hb);unfold setFlight;refine aq (yD he hd h1 ?_);rw [if_pos (show (Value.ref T != Value.none)=true from by simp)];refine An hT dT z3 (k _ ⟨fun b o z=>(ot b fun y=>by rw [y,nT] at z; cases z).trans (hB b o z),hn,hl.of_keeps fun b o z q=>⟨o,(ot b (tY hT dT z q)).trans z,rfl⟩,oe,vs,T,_,_,(ot e (fj Te)).trans he,hc,hdc,hd,h1,nT,Te,pK _ hT (Bf (rR dT _)),rR dT _,by simp [z3]⟩
  fun b o z q=>⟨o.slots,(ot b (tY hT dT z q)).trans z⟩)
theorem FlD.tail (x:FlD B (env :: outer) e cls fl s.heap):FlD B outer e cls fl s.heap:=by
 obtain ⟨a,b,⟨_,_,c⟩,d⟩:=x;exact ⟨a,b,c,d⟩
theorem FlD.there {h:cu} (x:FlD B l e cls fl h):∃ ob,h.get? e=some ob/\ob.cls=cls:=by
 obtain ⟨_,_,_,oe,_,_,_,_,he,hc,_⟩:=x;exact ⟨oe,he,hc⟩
theorem CA (hfr:A.frames=some (env :: outer)) (hf:env.frame=some L) (x:FlD B (env :: outer) e cls .none s.heap) (k:∀ h',FlD B outer e cls .none h'->s.heap.UpToSlots h'->Q () {s with heap:=h'}):aU M A (zP env (.ref e)) Q E s:=by
 unfold zP;refine aq (xK hfr hf x fun h1 x1 u1=>oP (s:={s with heap:=h1}) x1 fun h2 x2 u2=>k h2 (FlD.tail (s:={s with heap:=h2}) x2) (u1.trans u2))
theorem Ig {h:cu} {args:List ae} (hfr:A.frames=some (env :: outer)) (hf:env.frame=some L) (hB:B.StaysIn h) (hl:h.FunFrames B (env :: outer)) (x:JV h s.heap e cls args)
  (k:∀ h',FlD B outer e cls .none h'->s.heap.UpToSlots h'->Q () {s with heap:=h'}):aU M A (zP env (.ref e)) Q E s:=by
 obtain ⟨t,he,htn,ht⟩:=x.there;have en:B.get? e=none:=by
  cases q:B.get? e with
  | none=>rfl
  | some o=>have z:=hB e o q; rw [x.new] at z; cases z
 unfold zP DZ;simp only [hf];refine aq (aq (yD (x:=Value.none) he rfl rfl ?_));rw [if_neg (show ¬ ((Value.none != Value.none)=true) by decide)];exact yV hfr (hl.of_keeps fun b o z _=>⟨o,x.keeps b o z,rfl⟩) hf he (fun b o z=>x.keeps b o (hB b o z)) en rfl (show 1 < 6 by decide) rfl fun h1 x1 u1=>oP (s:={s with heap:=h1}) x1 fun h2 x2 u2=>k h2 (FlD.tail (s:={s with heap:=h2}) x2) (u1.trans u2)
end
def Fly (B:cu) (stk:List Env) (ea C:aa) (h:cu):Prop:=FlD B stk ea (.ref C) .none h
def CXo (P:aJ) (w:bJ):CXT:=fun outer H s E e s' =>
 ∃ (ea C:aa) (H':Hp) (B:cu),e=.ref ea/\E (.ref C) none H'/\s'.os=s.os/\oj s'.gens/\Un (frs outer) [] H H' s.heap s'.heap/\HOk P w H' s'.heap/\Fly B outer ea C s'.heap /\
  ∀ b o,(H' b≠none\/∃ o',s.heap.get? b=some o')->b∉frs outer->s'.heap.get? b=some o->B.get? b=some o
theorem Un.left {fs stk:List aa} {H₀ H:Hp} {h₀ h h' B:cu} (u:Un fs [] H₀ H h₀ h) (hB:B.StaysIn h') (cov:∀ b o,(H b≠none\/∃ o',h₀.get? b=some o')->b∉stk->h.get? b=some o->B.get? b=some o)
  (hst:∀ b o,h₀.get? b=some o->b∈stk->b∈fs) (sl:∀ b∈fs,∀ o,h.get? b=some o->∃ sl,h'.get? b=some {o with slots:=sl}):Un fs [] H₀ H h₀ h' where
 keep:=fun b o e n hb hx=>hB b o (cov b o (.inr ⟨o,e⟩) (fun z=>hb (hst b o e z)) (u.keep b o e n hb hx))
 slot:=fun b o e n hb hx=>by
  obtain ⟨s1,e1⟩:=u.slot b o e n hb hx;obtain ⟨s2,e2⟩:=sl b hb _ e1;exact ⟨s2,e2⟩
 free:=u.free
 there:=fun b o e hx=>by
  obtain ⟨o',e'⟩:=u.there b o e hx
  by_cases hb:b∈stk
  ·obtain ⟨s2,e2⟩:=sl b (hst b o e hb) _ e';exact ⟨_,e2⟩
  ·exact ⟨o',hB b o' (cov b o' (.inr ⟨o,e⟩) hb e')⟩
 tups:=u.tups
 frzs:=u.frzs
 tbls:=u.tbls
theorem HOk.left {P:aJ} {w:bJ} {H:Hp} {h h' B:cu} (ok:HOk P w H h) (hB:B.StaysIn h') (cov:∀ b o,H b≠none->h.get? b=some o->B.get? b=some o):HOk P w H h':=fun a o e =>
 (ok a o e).stay (fun b u hb q=>hB b u (cov b u (by
  rcases hb with z | z
  ·rw [z,e]; simp
  ·rw [z]; simp) q)) (fun _ q=>q) (fun _ _ q=>q)
section
variable {X:Cx} {pins:List (aa×Obj)} {σ:St} {H:Hp} {s:ak} {E E':XK}
theorem Inv.oldfs (I:Inv X pins σ H s):∀ b o,X.s₀.heap.get? b=some o->b∈frs X.stack->b∈X.fs:=fun b o e hb=>by
 rcases au.mp (I.stkSub b hb) with z | z
 ·exact absurd (bh (aN e) I.ok.above) (by rw [z]; exact gJ _)
 ·exact z
theorem Inv.ntr (I:Inv X pins σ H s):∀ b,H b≠none->b∉frs X.stack:=fun b hn z=>hn (I.stkFree b z)
theorem Inv.slotsOf (I:Inv X pins σ H s) {h':cu} (sm:s.heap.UpToSlots h'):∀ b∈X.fs,∀ o,s.heap.get? b=some o->∃ sl,h'.get? b=some {o with slots:=sl}:=fun b hb o e=>by
 obtain ⟨_,o',ho',hd⟩:=I.funs.mem hb;rw [e] at ho'
 cases ho';exact sm b o e hd
structure s9 (X:Cx) (E:XK):Prop where
 stk:X.stack=X.env :: X.outer
 fr:X.env.frame=some X.env.locals
 ex:X.ex=[]
 xe:X.xe=fun e s'=>aU (aX X.prog X.w) X.A (zP X.env e) (fun _ s''=>CXo X.prog X.w X.outer X.H₀ X.s₀ E e s'') (fun e' s''=>CXo X.prog X.w X.outer X.H₀ X.s₀ E e' s'') s'
theorem dJ {P:aJ} {w:bJ} {K:af} {mg:Str->Option ae} {base:cu} {N:List Str} {qual:Str} {scope:kE} {f:aa} {cd:ae} {A:bS} {outer:List Env} :
  s9 (rO (CXo P w) P w K mg base N qual scope f cd A outer s H E) E:=⟨rfl,rfl,rfl,rfl⟩
theorem s9.raises (hb:s9 X E) (I:Inv X pins σ H s) {h':cu} {e C:aa} {vs:List ae} (hx:JV s.heap h' e (.ref C) vs) (q:E (.ref C) none H):X.xe (.ref e) {s with heap:=h'}:=by
 rw [hb.xe];have hfr:X.A.frames=some (X.env :: X.outer):=by rw [I.ok.frames,hb.stk]
 have hin:∀ env∈X.stack,∀ a,env.frame=some a->a∈frs X.stack:=fun env he a ha=>rA.mpr ⟨env,he,ha⟩;have fl:s.heap.FunFrames (nG s.heap (frs X.stack)) (X.env :: X.outer):=by
  have z:=PySem.W.funFrames_hide I.stack hin;rw [hb.stk] at z |-;exact z
 have ub:Un X.fs [] X.H₀ H X.s₀.heap s.heap:=by
  have z:=I.base;rw [hb.ex] at z;exact z
 have keepB:∀ b o,b∉frs X.stack->s.heap.get? b=some o->(nG s.heap (frs X.stack)).get? b=some o:=fun b o n e=>zM _ e n;refine Ig (B:=nG s.heap (frs X.stack)) (h:=s.heap) hfr hb.fr (fun b o z=>zX _ z) fl hx fun h'' x1 x4=>?_;have sm:s.heap.UpToSlots h'':=(Nf hx.keeps).trans x4;refine ⟨e,C,H,_,rfl,q,I.os,I.bare,ub.left (stk:=frs X.stack) x1.1 (fun b o _ n e=>keepB b o n e) I.oldfs (I.slotsOf sm),I.hok.left x1.1 (fun b o n e=>keepB b o (I.ntr b n) e),x1,?_⟩;intro b o c n e1;have nb:b∉frs X.stack:=by
  rcases c with c | ⟨o',c⟩
  ·exact I.ntr b c
  ·exact fun z=>n (I.oldfs b o' c z)
 obtain ⟨o1,e2⟩:∃ o1,s.heap.get? b=some o1:=by
  rcases c with c | ⟨o',c⟩
  ·exact I.hok.has c
  ·exact ub.there b o' c (by simp)
 have e3:h''.get? b=some o1:=x1.1 b o1 (keepB b o1 nb e2);have e4:h''.get? b=some o:=e1;rw [e3] at e4
 cases e4;exact keepB b _ nb e2
theorem s9.passes (hb:s9 X E) (hE:∀ c d H,E' c d H->E c d H):lB (CXo X.prog X.w) X E':=fun pins σ H s e s' I h=>by
 obtain ⟨ea,C,H',B,rfl,q,os,bare,un,hok,fl,cov⟩:=h;have J:Inv X pins σ H' s':=I.call' (ch:=[]) os un hok bare (fun b z=>absurd z (by simp));rw [hb.xe];have hfr:X.A.frames=some (X.env :: X.outer):=by rw [I.ok.frames,hb.stk]
 have ub:Un X.fs [] X.H₀ H' X.s₀.heap s'.heap:=by
  have z:=J.base;rw [hb.ex] at z;exact z
 have ui:Un X.fs [] X.H₀ H X.s₀.heap s.heap:=by
  have z:=I.base;rw [hb.ex] at z;exact z
 have cov1:∀ b o,(H' b≠none\/∃ o',X.s₀.heap.get? b=some o')->b∉frs X.stack->s'.heap.get? b=some o->B.get? b=some o:=fun b o c n e =>
  cov b o (c.imp_right fun ⟨o',z⟩=>ui.there b o' z (by simp)) n e
 have fl':FlD B (X.env :: X.outer) ea (.ref C) .none s'.heap:=by
  rw [<- hb.stk];exact fl
 refine CA hfr hb.fr fl' fun h'' x1 x2=>?_;refine ⟨ea,C,H',B,rfl,hE _ _ _ q,J.os,J.bare,ub.left (stk:=frs X.stack) x1.1 cov1 J.oldfs (J.slotsOf x2),J.hok.left x1.1 (fun b o n e=>cov1 b o (.inl n) (J.ntr b n) e),x1,?_⟩;intro b o c n e1;have nb:b∉frs X.stack:=by
  rcases c with c | ⟨o',c⟩
  ·exact J.ntr b c
  ·exact fun z=>n (J.oldfs b o' c z)
 obtain ⟨o1,e2⟩:∃ o1,s'.heap.get? b=some o1:=by
  rcases c with c | ⟨o',c⟩
  ·exact J.hok.has c
  ·exact ub.there b o' c (by simp)
 have e3:h''.get? b=some o1:=x1.1 b o1 (cov1 b o1 c nb e2);have e4:h''.get? b=some o:=e1;rw [e3] at e4
 cases e4;exact cov1 b _ c nb e2
end
section
variable {X:Cx} {E:XK} {x:Str} {C:aa} {np cpos pos:Pos} {e₀:cM} {rest:List cM} {ta:TA} {K:af} {h:cu}
theorem Ih {bmB:List ae} {newId:String} (X:K.In h) (q:cY K C bmB newId=true) :
  ∃ bm N nm q bs hdct sn sub ab col dd k0 k1 k2 k3 k5 mN,h.get? C=some (excClassObj nm q C N bs bm hdct sn sub ab col dd k0 k1 k2 k3 k5 newId)/\h.Ns N mN/\mN "__init__"=none/\OwnTail h bmB bm:=by
 unfold cY at q
 split at q
 ·rename_i dd cd sl ho
  split at q
  ·rename_i C' bm k0 k1 k2 k3 n k5 hm hs
   simp only [tX,beq_iff_eq,Bool.not_eq_true'] at q;obtain ⟨⟨⟨⟨⟨rfl,rfl⟩,hdel⟩,ht⟩,hok⟩,hni⟩:=q;obtain ⟨nm,bs,mro,ns,qn,hd,sn,sub,ab,col,del⟩:=cd;dsimp only at hm hdel hok hni;subst hm hdel;have e:sl=#[k0,k1,k2,k3,some (.builtin n),k5]:=by
    obtain ⟨l⟩:=sl;have hs':l=[k0,k1,k2,k3,some (.builtin n),k5]:=hs;rw [hs']
   subst e;exact ⟨bm,ns,nm,qn,bs,hd,sn,sub,ab,col,dd,k0,k1,k2,k3,k5,_,X _ _ ho,.of_isNs (PySem.W.isNs_of_in X hok),PySem.W.nsMap_none_of_in X hok hni,PySem.W.tail_of_in X ht⟩
  ·cases q
 ·cases q
def oQ:List ae:=[.type "ValueError",.type "Exception",.type "BaseException",.type "object"]
def Lq (C:aa) (E:XK) (ta:TA):TS:=fun _ σ H=>ta σ H fun vs H1=>vs.length<=aB/\E (.ref C) none H1
theorem jK (hb:s9 X E) (hc:X.calm=true) (hg:Gl X x) (hm:X.mg x=some (.ref C)) (hx:cY X.K C oQ "ValueError.__new__"=true) (ha:PA X (e₀ :: rest) ta)
  (hd:(x == ("__debug__":Str))=false:=by decide) (he:cw (e₀ :: rest) X.env=(false,fc e₀ X.env) :: cw rest X.env:=by rfl) (hpl:(ia cpos (cw rest X.env)).any (·.1)=false:=by rfl) :
  PS X (.Raise (some (.Call (.Name x np) (e₀ :: rest) [] cpos)) none pos) (Lq C E ta):=by
 intro pins s σ H D I h;obtain ⟨bm,N,nm,q,bs,hdct,sn,sub,ab,col,dd,k0,k1,k2,k3,k5,mN,hC,hN,hni,T⟩:=Ih I.ok.mod.kin hx;have base:oQ.contains (.type "BaseException")=true:=F.excBase_ValueError.hasBase;refine wpAny_Raise_call_subT (C:=C) (nm:=nm) (q:=q) (N:=N) (bs:=bs) (bm:=bm) (hdct:=hdct) (sn:=sn) (sub:=sub) (ab:=ab) (col:=col) (dd:=dd) (k0:=k0) (k1:=k1) (k2:=k2) (k3:=k3) (k5:=k5)
  F.excBase_ValueError (mN:=mN) (T.hasType base) (I.ok.hd hc) (by rw [he]; show (false || (ia cpos (cw rest X.env)).any (·.1))=false; rw [hpl]; rfl) hni (pC I hg hm ⟨rfl,?_⟩ hd)
 have h1:=ha cpos pins s σ H _ I h;rw [he] at h1 |-;refine Ai (d7 h1 (fun us s2 z=>?_) fun _ _ y=>y);obtain ⟨vs,H1,I1,r,hl,q1⟩:=z;exact ⟨rfl,by rw [<- r.length]; exact hl,I1.bk _ _ hC,hN.keeps I1.bk,T.keeps I1.bk,fun h' e hm=>hb.raises I1 hm q1⟩
end
section
variable {X:Cx} {pins:List (aa×Obj)} {σ:St} {H:Hp} {s:ak} {T:aa->St->Hp->Prop}
def vT (X:Cx) (pins:List (aa×Obj)) (H:Hp) (B h:cu):Prop:=
 ∀ b o,(H b≠none\/(b∉X.ex/\∃ o',X.s₀.heap.get? b=some o')\/∃ p∈X.pn++pins,p.1=b)->b∉frs X.stack->h.get? b=some o->B.get? b=some o
def tryW (X:Cx) (pins:List (aa×Obj)) (T:aa->St->Hp->Prop):ae->ak->Prop:=fun e s' =>
 ∃ ea C B σ H,e=.ref ea/\Inv X pins σ H s'/\Fly B X.stack ea C s'.heap/\vT X pins H B s'.heap/\T C σ H
abbrev Cx.tr (X:Cx) (pins:List (aa×Obj)) (T:aa->St->Hp->Prop):Cx:={X with xe:=tryW X pins T,pn:=X.pn++pins}
theorem Inv.tr (I:Inv X pins σ H s) (T:aa->St->Hp->Prop):Inv (X.tr pins T) [] σ H s:=
 ⟨⟨I.ok.mod,I.ok.kind,I.ok.glob,I.ok.blt,I.ok.above,I.ok.inj,I.ok.has,I.ok.cab,I.ok.hd,I.ok.frames,I.ok.stk,I.ok.exf,I.ok.bs,I.ok.bsz,I.ok.noex,I.ok.exfs,I.ok.funs,I.ok.frf⟩,I.os,I.bare,I.base,I.loc,I.cell,I.free,I.freeC,
  fun p hp=>I.pin p (by simpa using hp),I.hok,I.len⟩
theorem Inv.untr {pins':List (aa×Obj)} (I:Inv (X.tr pins T) pins' σ H s):Inv X pins σ H s:=
 ⟨⟨I.ok.mod,I.ok.kind,I.ok.glob,I.ok.blt,I.ok.above,I.ok.inj,I.ok.has,I.ok.cab,I.ok.hd,I.ok.frames,I.ok.stk,I.ok.exf,I.ok.bs,I.ok.bsz,I.ok.noex,I.ok.exfs,I.ok.funs,I.ok.frf⟩,I.os,I.bare,I.base,I.loc,I.cell,I.free,I.freeC,
  fun p hp=>I.pin p (gE _ hp),I.hok,I.len⟩
theorem Bg {h h':cu} {c:aa} {v:Option ae} (x:h.IsCell c v) (sm:h.UpToSlots h'):h'.IsCell c v:=by
 obtain ⟨o,ho,hd⟩:=x;obtain ⟨sl,e⟩:=sm c o ho (fun vs q=>by rw [hd] at q; cases q);exact ⟨_,e,hd⟩
theorem Inv.landed {B h':cu} (I:Inv X pins σ H s) (hB:B.StaysIn h') (cov:vT X pins H B s.heap) (sm:s.heap.UpToSlots h'):Inv X pins σ H {s with heap:=h'}:=by
 refine ⟨I.ok,I.os,I.bare,⟨fun b o e n hb hx=>?_,fun b o e n hb hx=>?_,I.base.free,fun b o e hx=>?_,I.base.tups,I.base.frzs,I.base.tbls⟩,?_,fun x c e=>?_,I.free,I.freeC,fun p hp=>?_,I.hok.left hB (fun b o n e=>cov b o (.inl n) (I.ntr b n) e),I.len⟩
 ·exact hB b o (cov b o (.inr (.inl ⟨hx,o,e⟩)) (fun z=>hb (I.oldfs b o e z)) (I.base.keep b o e n hb hx))
 ·obtain ⟨s1,e1⟩:=I.base.slot b o e n hb hx;obtain ⟨s2,e2⟩:=I.slotsOf sm b hb _ e1;exact ⟨s2,e2⟩
 ·obtain ⟨o',e'⟩:=I.base.there b o e hx
  by_cases hb:b∈frs X.stack
  ·obtain ⟨s2,e2⟩:=I.slotsOf sm b (I.oldfs b o e hb) _ e';exact ⟨_,e2⟩
  ·exact ⟨o',hB b o' (cov b o' (.inr (.inl ⟨hx,o,e⟩)) hb e')⟩
 ·obtain ⟨m,hn,hl⟩:=I.loc;refine ⟨m,sm.ns hn,fun i x v e1 e2 e3=>?_⟩;obtain ⟨u,r,l⟩:=hl i x v e1 e2 e3;refine ⟨u,r,?_⟩
  rcases l with l | ⟨k,c,e,l⟩
  ·exact .inl l
  ·exact .inr ⟨k,c,e,Bg l sm⟩
 ·obtain ⟨v,q⟩:=I.cell x c e;exact ⟨v,Bg q sm⟩
 ·obtain ⟨e,n,l,f,d⟩:=I.pin p hp;exact ⟨hB _ _ (cov p.1 p.2 (.inr (.inr ⟨p,hp,rfl⟩)) (fun z=>(au.mp (I.stkSub _ z)).elim l f) e),n,l,f,d⟩
theorem vT.land {B h':cu} (I:Inv X pins σ H s) (hB:B.StaysIn h') (cov:vT X pins H B s.heap):vT X pins H B h':=fun b o c n e=>by
 obtain ⟨o1,e1⟩:∃ o1,s.heap.get? b=some o1:=by
  rcases c with c | ⟨hx,o',c⟩ | ⟨p,hp,rfl⟩
  ·exact I.hok.has c
  ·exact I.base.there b o' c hx
  ·exact ⟨_,(I.pin p hp).1⟩
 have e2:=hB b o1 (cov b o1 c n e1);rw [e] at e2
 cases e2;exact cov b _ c n e1
abbrev Cx.hdl (X:Cx) (ea:aa):Cx:={X with A:=X.A.mark (some (.ref ea)),calm:=false,xe:=fun _ _=>False}
theorem Inv.hdl (I:Inv X pins σ H s) (ea:aa):Inv (X.hdl ea) pins σ H s:=
 ⟨⟨I.ok.mod,I.ok.kind,I.ok.glob,I.ok.blt,I.ok.above,I.ok.inj,I.ok.has,I.ok.cab,fun z=>tZ z,I.ok.frames,I.ok.stk,I.ok.exf,I.ok.bs,I.ok.bsz,I.ok.noex,I.ok.exfs,I.ok.funs,I.ok.frf⟩,I.os,I.bare,I.base,I.loc,I.cell,I.free,I.freeC,
  I.pin,I.hok,I.len⟩
theorem Inv.unhdl {ea:aa} (ok:X.Ok) (I:Inv (X.hdl ea) pins σ H s):Inv X pins σ H s:=⟨ok,I.os,I.bare,I.base,I.loc,I.cell,I.free,I.freeC,I.pin,I.hok,I.len⟩
abbrev TH:=aa->TS
def PHs (X:Cx) (hs:List kD) (th:TH):Prop:=
 ∀ (pins:List (aa×Obj)) (s:ak) (σ:St) (H:Hp) (D:lL) (ea C:aa) (B:cu),Inv X pins σ H s->Fly B X.stack ea C s.heap->vT X pins H B s.heap->th C D σ H ->
  aU (aX X.prog X.w) X.A (handleBy (.ref ea) X.env hs) (SP X pins D) X.xe s
def thNil:TH:=fun _ _ _ _=>False
theorem Bh:PHs X [] thNil:=fun _ _ _ _ _ _ _ _ _ _ _ h=>h.elim
def tTry (T:aa->St->Hp->Prop) (tb:TS) (th:TH):TS:=fun D σ H=>tb D σ H/\∀ C σ' H',σ'.length=σ.length->T C σ' H'->th C D σ' H'
theorem Lr {body:List cV} {h₀:kD} {hs:List kD} {pos:Pos} {tb:TS} {th:TH} (T:aa->St->Hp->Prop) (hb:∀ pins,PSs (X.tr pins T) body tb) (hh:PHs X (h₀ :: hs) th)
  (hst:X.stack=X.env :: X.outer:=by rfl) (hfr:X.env.frame=some X.env.locals:=by rfl):PS X (.Try body (h₀ :: hs) [] [] pos) (tTry T tb th):=by
 intro pins s σ H D I h;obtain ⟨h1,h2⟩:=h;refine wpAny_Try_except (d7 (hb pins [] s σ H D (I.tr T) h1) (fun f s1 q=>?_) (fun e s1 q=>?_))
 ·cases f with
  | next=>obtain ⟨σ',H',J,q⟩:=q; exact lA ⟨σ',H',J.untr,q⟩
  | ret v=>obtain ⟨v,σ',H',J,r,q⟩:=q; exact ⟨v,σ',H',J.untr,r,q⟩
  | brk=>obtain ⟨σ',H',J,q⟩:=q; exact ⟨σ',H',J.untr,q⟩
  | cont=>obtain ⟨σ',H',J,q⟩:=q; exact ⟨σ',H',J.untr,q⟩
 ·obtain ⟨ea,C,B,σ',H',rfl,J,fl,cov,t⟩:=q;have fl1:FlD B (X.env :: X.outer) ea (.ref C) .none s1.heap:=by
   rw [<- hst];exact fl
  refine xK (by rw [J.ok.frames,hst]) hfr fl1 fun h4 x4 s4=>?_;refine oP x4 fun h5 fl5 s5=>?_;have J5:=J.landed fl5.1 cov (s4.trans s5);rw [<- hst] at fl5;exact hh pins _ σ' H' D ea C B J5 fl5 (vT.land J fl5.1 cov) (h2 C σ' H' (by rw [J.len,I.len]) t)
def xM (CX:CXT) (X:Cx) (E:St->XK):Prop:=∀ (pins:List (aa×Obj)) (σ:St) (H:Hp) (s:ak) (e:ae) (s':ak),Inv X pins σ H s->CX X.stack H s (E σ) e s'->X.xe e s'
def tryE (T:aa->St->Hp->Prop):St->XK:=fun σ c _ H=>∃ C,c=.ref C/\T C σ H
theorem uR:xM (CXo X.prog X.w) (X.tr pins T) (tryE T):=fun pins' σ H s e s' I h=>by
 obtain ⟨ea,C,H',B,rfl,⟨C',hC,q⟩,os,bare,un,hok,fl,cov⟩:=h
 cases hC;have J:Inv (X.tr pins T) pins' σ H' s':=I.call' (ch:=[]) os un hok bare (fun b z=>absurd z (by simp));refine ⟨ea,C,B,σ,H',rfl,J.untr,fl,fun b o c n e=>cov b o ?_ n e,q⟩
 rcases c with c | ⟨c1,o',c2⟩ | ⟨p,hp,rfl⟩
 ·exact .inl c
 ·exact .inr (I.base.there b o' c2 c1)
 ·exact .inr ⟨_,(I.pin p (gE _ hp)).1⟩
def Ls (sp:Sp) (E:St->XK) (t:TA):TE:=fun σ H Q=>t σ H fun vs H1=>sp vs H1 Q (E σ)
variable {CX:CXT} {k:Nat} {f:aa} {fd:bR} {ps:List Str} {sp:Sp} {E:St->XK} {x:Str} {p pos:Pos} {e:cM} {es:List cM} {t:TA}
theorem ER (F:bA X.prog X.w X.K X.mg X.base CX k f fd ps sp) (hr:c5 k X.A) (hg:Gl X x) (hm:X.mg x=some (.ref f)) (hk:gi X.K (.ref f)=true) (hb:Binds X.K fd ps []) (hx:xM CX X E) (ha:PA X (e :: es) t)
  (hdb:(x == ("__debug__":Str))=false:=by decide) (he:cw (e :: es) X.env=(false,fc e X.env) :: cw es X.env:=by rfl) (hpl:(ia pos (cw es X.env)).any (·.1)=false:=by rfl) :
  PE X (.Call (.Name x p) (e :: es) [] pos) (Ls sp E t):=by
 intro pins s σ H Q I h;refine ib (pC I hg hm ?_ hdb);refine iT (h₀:=X.base) I.ok.mod.kin hk (thn (ha pos pins s σ H _ I h) fun us s1 z=>?_) he hpl;obtain ⟨vs,H1,I1,r,q⟩:=z;refine ⟨I1.kIn,?_⟩;have hl:(us++[]).length=ps.length:=by
  rw [cE,<- r.length];exact F.len _ _ _ _ q
 have hb1:=hb s1 us I1.kIn hl;rw [cE] at hb1;refine mK (jS (F.run X.A X.stack s1 H1 ⟨us,[]⟩ us vs Q (E σ) hr I1.env0 hb1 r q) fun r s' hq=>?_)
 cases r with
 | error e=>exact hx pins σ H1 s1 e s' I1 hq
 | ok fl =>
  cases fl with
  | ret u=>exact I1.after hq
  | next=>exact cH hq
  | brk=>exact cH hq
  | cont=>exact cH hq
end
theorem Fun.okX {P:aJ} {w:bJ} {K:af} {mg:Str->Option ae} {base:cu} {x qual:Str} {st:cV} {f:aa} {fd:bR} {N ps:List Str} {k:Nat} {sp:Sp} (F:Fun K x qual st f fd) (S:bK N ps (aL st)) (len:∀ vs H Q E,sp vs H Q E->vs.length=ps.length)
  (hbody:∀ (cdv:ae) (A:bS) (outer:List Env) (s:ak) (H:Hp) (vs:List V) (Q:VK) (E:XK),c5 k (A.deeper (rP qual (aL st) s.heap.objs.size f cdv))->sp vs H Q E ->
   ∃ t,PSs (rO (CXo P w) P w K mg base N qual (aL st) f cdv A outer s H E) (iO st) t/\t {nx:=fun _ H'=>Q .non H',rt:=Q} (start N vs) H):bA P w K mg base (CXo P w) (k + 1) f fd ps sp:=by
 obtain ⟨oc,od,kV,doc,pm,an,cdv,ct,osl,rfl,lk,hcd⟩:=F.ex;exact JR lk hcd S len fun A outer s H vs Q E hr hsp=>hbody cdv A outer s H vs Q E hr hsp
theorem xO {prog:aJ} {w:bJ} {A:bS} {R:Ew->ak->Prop} {s:ak} {elt target iter:cM} {ifs:List cM} {scope:kE} {pos:Pos} {it acc:ae} {env:Env} (J:Nat->ak->Prop)
  (turn:∀ n s,J n s->aU (aX prog w) A (pyNext it) (fun r s1=>match r with
   | none=>R (.ok .next) s1
   | some v=>aU (aX prog w) A (qE target it v) (fun _ s2=>aU (aX prog w) A (xo target env v) (fun _ s3 =>
     aU (aX prog w) A (forIn ifs true fun c r=>if r=true then do let ok <- Eg c env (fc c env); pure (ForInStep.yield ok) else pure (ForInStep.yield r)) (fun ok s4 =>
      if ok=true then aU (aX prog w) A (fc elt env) (fun x s5=>aU (aX prog w) A (vJ (.builtin "list.append") [acc,x]) (fun _ s6=>∃ m,m < n/\J m s6) (fun _ _=>False) s5) (fun _ _=>False) s4
      else ∃ m,m < n/\J m s4) (fun _ _=>False) s3) (fun _ _=>False) s2) (fun _ _=>False) s1) (fun _ _=>False) s)
  (n:Nat) (h:J n s):lO (aX prog w) A (.compLoop (.ListComp elt [⟨target,iter,ifs,0⟩] scope pos) 0 it acc env) R s:=by
 refine codeAny_loop rfl J (fun n s hI=>?_) n h;show aU _ A ((compTurn (.ListComp elt [⟨target,iter,ifs,0⟩] scope pos) 0 it acc env).onRaise
  (fun x=>do DZ x env; theTreesLotGoes x)) _ _ s
 refine wpAny_noted ?_;rw [compTurn_list];refine aq (Cf (aq (d7 (turn n s hI) (fun r s1 h1=>?_) fun _ _ z=>z.elim)))
 cases r with
 | none=>exact aV h1
 | some v =>
  refine aq (d7 h1 (fun _ s2 h2=>?_) fun _ _ z=>z.elim);refine aq (d7 h2 (fun _ s3 h3=>?_) fun _ _ z=>z.elim);refine aq (d7 h3 (fun ok s4 h4=>?_) fun _ _ z=>z.elim)
  cases ok with
  | false=>exact aV ⟨rfl,h4⟩
  | true =>
   refine aq (aq (d7 h4 (fun x s5 h5=>?_) fun _ _ z=>z.elim));exact aq (d7 h5 (fun _ s6 h6=>aV (aV ⟨rfl,h6⟩)) fun _ _ z=>z.elim)
theorem yW {env:Env}:∀ {names:List (Str×jT)} {x:Str},
  (names.map fun (n,k)=>if (k == NameKind.free && env.scope.kind == .function && env.kindOf n == some .cell) then (n,NameKind.cell) else (n,k)).lookup x=some .local->names.lookup x=some .local
 | [],_,h=>by simp at h
 |(n,k) :: r,x,h=>by
  have ih:=@yW env r x;rw [bQ] at h;dsimp only at h
  by_cases hc:(k == NameKind.free && env.scope.kind == .function && env.kindOf n == some .cell)=true
  ·rw [if_pos hc] at h
   cases hx:x == n with
   | true=>simp [cy,hx] at h
   | false =>
    simp only [cy,hx] at h |-;exact ih h
  ·rw [if_neg hc] at h
   cases hx:x == n with
   | true =>
    simp only [cy,hx] at h |-;exact h
   | false =>
    simp only [cy,hx] at h |-;exact ih h
theorem xP {env:Env}:∀ {names:List (Str×jT)} {x:Str},
  ((names.map fun (n,k)=>if (k == NameKind.free && env.scope.kind == .function && env.kindOf n == some .cell) then (n,NameKind.cell) else (n,k)).lookup x=some .cell \/
   (names.map fun (n,k)=>if (k == NameKind.free && env.scope.kind == .function && env.kindOf n == some .cell) then (n,NameKind.cell) else (n,k)).lookup x=some .free)->names.lookup x=some .cell\/names.lookup x=some .free
 | [],_,h=>by simp at h
 |(n,k) :: r,x,h=>by
  have ih:=@xP env r x;rw [bQ] at h;dsimp only at h
  by_cases hc:(k == NameKind.free && env.scope.kind == .function && env.kindOf n == some .cell)=true
  ·rw [if_pos hc] at h;have hk:k=.free:=by
    have z:=(qe.mp (qe.mp hc).1).1;exact eq_of_beq z
   cases hx:x == n with
   | true =>
    simp only [cy,hx];rw [hk];exact .inr rfl
   | false =>
    simp only [cy,hx] at h |-;exact ih h
  ·rw [if_neg hc] at h
   cases hx:x == n with
   | true =>
    simp only [cy,hx] at h |-;exact h
   | false =>
    simp only [cy,hx] at h |-;exact ih h
def oR (env:Env):List (Str×jT)->List (Str×aa)->List (Str×aa)
 | [],cs=>cs
 |(n,k) :: r,cs=>oR env r (if k=.free then (match env.cells.lookup n with | some c=>(n,c) :: cs | none=>cs) else cs)
theorem yX {env:Env}:∀ (names:List (Str×jT)) (cs:List (Str×aa)),(∀ y∈names,y.2=.free->∃ c,env.cells.lookup y.1=some c) ->
  (forIn names cs fun x r=>(do
   if (x.2 == NameKind.free)=true then do
    let c <- cellOf env x.1
    pure (ForInStep.yield ((x.1,c) :: r))
   else pure (ForInStep.yield r):Sem (ForInStep (List (Str×aa)))))=(pure (oR env names cs):Sem (List (Str×aa)))
 | [],cs,_=>rfl
 |(n,k) :: r,cs,h=>by
  have ih:=fun cs'=>yX r cs' (fun y hy=>h y (ag _ hy));rw [List.forIn_cons]
  by_cases hk:k=.free
  ·subst hk;obtain ⟨c,hc⟩:=h _ ax rfl;have e1:cellOf env n=pure c:=by
    unfold cellOf;rw [show env.cells.lookup n=some c from hc]
   have e2:oR env ((n,.free) :: r) cs=oR env r ((n,c) :: cs):=by
    show oR env r (if NameKind.free=.free then (match env.cells.lookup n with | some c=>(n,c) :: cs | none=>cs) else cs)=_;rw [if_pos rfl,show env.cells.lookup n=some c from hc]
   rw [e2,<- ih];simp [e1]
  ·have e2:oR env ((n,k) :: r) cs=oR env r cs:=by
    show oR env r (if k=.free then _ else cs)=_;rw [if_neg hk]
   rw [e2,<- ih];have e3:(k == NameKind.free)=false:=by
    cases k <;> first | rfl | exact absurd rfl hk
   simp [e3]
theorem yY {env:Env}:∀ {names:List (Str×jT)} {cs:List (Str×aa)} {n:Str} {c:aa},(∀ n c,cs.lookup n=some c->env.cells.lookup n=some c)->(oR env names cs).lookup n=some c->env.cells.lookup n=some c
 | [],_,_,_,h,e=>h _ _ e
 |(m,k) :: r,cs,n,c,h,e=>by
  refine yY (names:=r) (fun n' c' e'=>?_) e
  by_cases hk:k=.free
  ·rw [if_pos hk] at e'
   cases hm:env.cells.lookup m with
   | none =>
    rw [hm] at e';exact h _ _ e'
   | some d =>
    rw [hm] at e';dsimp only at e';rw [cy] at e'
    split at e'
    ·rename_i z
     rw [eq_of_beq z,hm];exact e'
    ·exact h _ _ e'
  ·rw [if_neg hk] at e';exact h _ _ e'
theorem wL {env:Env}:∀ (names:List (Str×jT)) (cs:List (Str×aa)) (n:Str),(∃ c,cs.lookup n=some c)->∃ c,(oR env names cs).lookup n=some c
 | [],_,_,h=>h
 |(m,k) :: r,cs,n,h=>by
  refine wL r _ n ?_
  by_cases hk:k=.free
  ·rw [if_pos hk]
   cases hm:env.cells.lookup m with
   | none=>exact h
   | some d =>
    dsimp only;rw [cy]
    split
    ·exact ⟨_,rfl⟩
    ·exact h
  ·rw [if_neg hk];exact h
theorem yZ {env:Env}:∀ {names:List (Str×jT)} {cs:List (Str×aa)} {n:Str},(n,NameKind.free)∈names->(∃ c,env.cells.lookup n=some c)->∃ c,(oR env names cs).lookup n=some c
 | [],_,_,h,_=>by cases h
 |(m,k) :: r,cs,n,h,hc=>by
  rcases au.mp h with e | e
  ·obtain ⟨e1,e2⟩:=Prod.mk.inj e;subst e1 e2;obtain ⟨c,hc⟩:=hc;refine wL r _ n ⟨c,?_⟩;rw [if_pos rfl,hc];dsimp only;rw [cy,beq_self_eq_true]
  ·exact yZ (names:=r) e hc
structure iF (X:Cx) (scope:kE) (NN:List Str):Prop where
 nocell:∀ y∈scope.names,y.2≠.cell
 kind:scope.kind=.function
 names:∀ y∈scope.names,y.2=.local->scope.names.lookup y.1=some .local
 far:∀ y∈scope.names,y.2=.free->X.env.kindOf y.1=some .cell\/X.env.kindOf y.1=some .free
 len:NN.length=X.N.length
 apart:∀ (i:Nat) (n:Str),NN[i]?=some n->scope.names.lookup n≠some .local/\(X.N[i]?=some n\/scope.names.lookup n=none)
theorem iF.closed {X:Cx} {scope:kE} (hf:∀ y∈scope.names,y.2≠.free) (hc:∀ y∈scope.names,y.2≠.cell) (hk:scope.kind=.function) (hn:∀ y∈scope.names,y.2=.local->scope.names.lookup y.1=some .local)
  (ha:∀ n∈X.N,scope.names.lookup n≠some .local):iF X scope X.N where
 nocell:=hc
 kind:=hk
 names:=hn
 far:=fun y hy e=>absurd e (hf y hy)
 len:=rfl
 apart:=fun i n e=>⟨ha n (bV e),.inl e⟩
theorem iF.open {X:Cx} {scope:kE} {NN N:List Str} {sc:kE} (hN:X.N=N) (hsc:X.env.scope=sc) (hc:∀ y∈scope.names,y.2≠.cell) (hk:scope.kind=.function) (hn:∀ y∈scope.names,y.2=.local->scope.names.lookup y.1=some .local)
  (hf:∀ y∈scope.names,y.2=.free->sc.names.lookup y.1=some .cell) (hl:NN.length=N.length) (ha:∀ p∈NN.zip N,scope.names.lookup p.1≠some .local/\(p.2=p.1\/scope.names.lookup p.1=none)):iF X scope NN where
 nocell:=hc
 kind:=hk
 names:=hn
 far:=fun y hy e=>.inl (by have z:=hf y hy e; rw [<- hsc] at z; exact z)
 len:=by rw [hN]; exact hl
 apart:=fun i n e=>by
  have lt:i < N.length:=by rw [<- hl]; exact (aE.mp e).1
  have e2:N[i]?=some N[i]:=aM lt;have z:=ha (n,N[i]) (bV (i:=i) (by rw [xQ]; exact ⟨e,e2⟩));refine ⟨z.1,?_⟩
  rcases z.2 with z | z
  ·left
   rw [hN,e2];exact congrArg some z
  ·exact .inr z
abbrev cxC (X:Cx) (scope:kE) (NL:List Str) (fp:List aa) (s₂:ak) (H₂:Hp) (C:aa):Cx:=
 {X with N:=NL,s₀:=s₂,H₀:=H₂,env:=compEnvC scope (oR X.env scope.names []) C X.env,outer:=X.stack,ex:=fp,fn:=fun _=>false,pn:=[],xe:=fun _ _=>False}
def PTs (X:Cx) (ifs:List cM) (t:TT):Prop:=
 ∀ (pins:List (aa×Obj)) (s:ak) (σ:St) (H:Hp) (Q:Bool->Hp->Prop),Inv X pins σ H s->t σ H Q ->
  aU (aX X.prog X.w) X.A (forIn ifs true fun c r=>if r=true then do let ok <- Eg c X.env (fc c X.env); pure (ForInStep.yield ok) else pure (ForInStep.yield r)) (TP X pins σ Q) X.xe s
def vU:TT:=fun _ H Q=>Q true H
theorem j0 {X:Cx}:PTs X [] vU:=fun pins s σ H Q I h=>wpAny_tests_nil ⟨H,I,h⟩
def uS (n:Nat) (wi:TI) (g:TG) (tc:TT) (te:TE):TE:=fun σ H Q=>wi σ H fun J H1=>∃ W:Nat->Nat->List V->Hp->Prop,(∃ m,W 0 m [] H1)/\∀ i m ys H,W i m ys H->ys.length < aB /\
 ((J.stop i H/\∀ p,H p=none->Q (.ref p) (upd H p (.lst ys))) \/
  (J.go i H/\∃ N:List V->Hp->Prop,(∀ ys' H',N ys' H'->∃ m',m' < m/\W (i + 1) m' ys' H')/\∀ x H',J.yld i H x H'->g x (cB n none++σ) H' fun σ2 H2=>σ2.drop n=σ/\tc σ2 H2 fun b H3 =>
   if b=true then te σ2 H3 fun y H4=>N (ys++[y]) H4 else N ys H3))
section
variable {X:Cx}
theorem y7 {σ σ2:St} {n:Nat} (h:σ2.drop n=σ) (i:Nat) (v:V) (e:(cB n none++σ)[i]?=some (some v)):σ2[i]?=some (some v):=by
 by_cases hi:i < n
 ·rw [ff (by simpa using hi),nJ,if_pos hi] at e
  cases e
 ·rw [dX (by simpa using hi),jI] at e;rw [<- h,D0] at e;rw [show n + (i - n)=i by omega] at e;exact e
theorem y8 {elt target iter:cM} {ifs:List cM} {scope:kE} {NN:List Str} {pos pos':Pos} {wi:TI} {g:TG} {tc:TT} {te:TE} {use:Option (ae->Sem Unit)} {Qv:ae->ak->Prop} (own:List Str) (ok:iF X scope NN) (hc:X.calm=true) (hi:PI X target iter wi)
  (hg:∀ fp s₂ H₂ C,PG (cxC X scope (own++NN) fp s₂ H₂ C) target g) (ht:∀ fp s₂ H₂ C,PTs (cxC X scope (own++NN) fp s₂ H₂ C) ifs tc) (he:∀ fp s₂ H₂ C,PE (cxC X scope (own++NN) fp s₂ H₂ C) elt te)
  (hs:∀ x,oo iter X.env x=pure x) {pins:List (aa×Obj)} {s:ak} {σ:St} {H:Hp} {Q:VK} (I:Inv X pins σ H s) (h:uS own.length wi g tc te σ H Q)
  (hfin:∀ (s4:ak) (C D:aa) (H':Hp) (m:Str->Option ae),s4.heap.Ns C m->Inv X pins σ H' s4->H' C=none->C≠X.env.locals->X.s₀.heap.objs.size<=C->(∀ x c,X.env.cells.lookup x=some c->c≠C)->(∀ p∈X.pn++pins,p.1≠C)->Q (.ref D) H' ->
   compPost (aX X.prog X.w) X.A X.xe use Qv (.ref D) C (.ok .next) s4) :
  aU (aX X.prog X.w) X.A (comprehension (.ListComp elt [⟨target,iter,ifs,0⟩] scope pos) scope X.env pos' (newList []) false (fc iter X.env) use) Qv X.xe s:=by
 have hfr:∀ y∈scope.names,y.2=.free->∃ c,X.env.cells.lookup y.1=some c:=fun y hy e=>I.ok.has _ (ok.far y hy e);have okclos:closureFor scope X.env=pure (oR X.env scope.names []):=by
  unfold closureFor;rw [<- yX scope.names [] hfr];simp
 have oksub:∀ n c,(oR X.env scope.names []).lookup n=some c->X.env.cells.lookup n=some c:=fun n c e=>yY (fun n c e=>by simp at e) e;have okfar:∀ n,(scope.names.lookup n=some .cell\/scope.names.lookup n=some .free)->(∃ c,(oR X.env scope.names []).lookup n=some c)/\(X.env.kindOf n=some .cell\/X.env.kindOf n=some .free):=fun n e=>by
  rcases e with e | e
  ·exact absurd rfl (ok.nocell _ (fK e))
  ·have m:=fK e;exact ⟨yZ m (hfr _ m rfl),ok.far _ m rfl⟩
 refine wpAny_comprehension_free (use:=use) rfl hs okclos ok.kind ok.names (thn (hi pins s σ H _ I h) fun xv s1 h1=>thn h1 fun itv s2 h2=>?_);obtain ⟨it,fp,tn,J,H2,e,I2,T,st2,f2,W,⟨m0,w0⟩,turn⟩:=h2;subst e;have fpLt:∀ b∈fp,b < s2.heap.objs.size:=fun b hb=>by
  obtain ⟨o,e,_⟩:=T.obj _ _ st2 b hb;exact aN e
 refine Nd (wpAny_newFunctionEnv ok.nocell (by intro y hy; simp at hy) (fun h1 hns hsb=>?_) ok.kind);dsimp only at hns hsb |-;generalize hP:s2.heap.push {cls:=.type "list",dict:=none,data:=.seq ([]:List ae).toArray}=P at hns hsb |-;have hC:P.objs.size=s2.heap.objs.size + 1:=by rw [<- hP,p8]
 have hDC:s2.heap.objs.size≠P.objs.size:=by rw [hC]; exact aO (uL _)
 have leC:s2.heap.objs.size<=P.objs.size:=by rw [hC]; exact fq _
 have old:∀ b o,s2.heap.get? b=some o->h1.get? b=some o:=fun b o e =>
  hsb.extBut b o (by rw [hC]; exact aO (ij (aN e))) (aI _ (hP ▸ aI _ e))
 have accAt:h1.get? s2.heap.objs.size=some {cls:=.type "list",data:=.seq ([]:List ae).toArray 0}:=hsb.extBut _ _ hDC (aI _ (hP ▸ cj _ rfl))
 -- the block's context is well made
 have okC:(cxC X scope (own++NN) fp s2 H2 P.objs.size).Ok:=by
  refine ⟨I.ok.mod,ok.kind,I.ok.glob,I.ok.blt,by show s2.heap.objs.size<=P.objs.size; omega,fun y z c a b=>I.ok.inj y z c (oksub _ _ a) (oksub _ _ b),fun y hy=>(okfar y (xP hy)).1,fun y c z _=>tZ z,I.ok.hd,I.ok.frames,.inl rfl,
   fun b hb=>⟨fun z=>?_,fun y c e=>(f2 b hb).2.2.2.2.1 y c (oksub _ _ e)⟩,I2.bs,cZ I.ok.bsz I2.sz,fun b o e hb=>?_,fun b hb z=>?_,I2.stack,I2.stkFree⟩
  ·exact aO (bh (fpLt b hb) leC) z
  ·rcases (f2 b hb).2.2.2.1 with q | q
   ·exact I.ok.noex b o e q
   ·exact absurd (bh (aN e) (cZ I.ok.bsz q)) (gJ _)
  ·rcases au.mp (I2.stkSub b z) with q | q
   ·exact (f2 b hb).2.1 q
   ·exact (f2 b hb).2.2.1 q
 have fpOk:∀ {H':Hp} {o:Obj},(∀ b∈fp,H' b=none)->∀ b∈fp,xq (cxC X scope (own++NN) fp s2 H2 P.objs.size) [(s2.heap.objs.size,o)] H' b:=fun {H' o} hn b hb=>by
  have lt:=fpLt b hb;refine ⟨hn b hb,fun z=>?_,fun z=>okC.exfs b hb z,.inl hb,fun y c e=>(okC.exf b hb).2 y c e,fun p hp z=>?_⟩
  ·exact aO (bh lt leC) z
  ·have hp':p=(s2.heap.objs.size,o):=by simpa using hp
   subst hp';exact aO lt (Eq.symm z)
 have cellNe:∀ y c,(oR X.env scope.names []).lookup y=some c->c < s2.heap.objs.size:=fun y c e=>by
  obtain ⟨v,q⟩:=I2.cell y c (oksub _ _ e);exact q.lt
 have start:Inv (cxC X scope (own++NN) fp s2 H2 P.objs.size) [] (cB own.length none++σ) H2 {s2 with heap:=h1,toks:=s2.toks + ([]:List (Str×ae)).length}:=by
  refine ⟨okC,rfl,I2.bare,Un.kept old,⟨_,hns,fun i y v e1 e2 e3=>?_⟩,fun y c e=>?_,I2.hok.fresh (by show s2.heap.objs.size<=P.objs.size; omega),fun y c e=>I2.freeC y c (oksub _ _ e),fun p hp=>absurd (show p∈([]:List (aa×Obj)) from by simpa using hp) (by simp),I2.hok.kept old,?_⟩
  ·by_cases hi:i < own.length
   ·rw [ff (by simpa using hi),nJ,if_pos hi] at e2
    cases e2
   ·have e1n:NN[i - own.length]?=some y:=by
     have z:(own++NN)[i]?=some y:=e1;rw [dX (by omega)] at z;exact z
    rw [dX (by simpa using hi),jI] at e2;obtain ⟨ap1,ap2⟩:=ok.apart _ y e1n
    rcases e3 with e3 | e3
    ·exact absurd (yW e3) ap1
    ·obtain ⟨⟨c,hcl⟩,kc⟩:=okfar y (xP e3);have e1':X.N[i - own.length]?=some y:=by
      rcases ap2 with z | z
      ·exact z
      ·rcases xP e3 with q | q <;> (rw [z] at q; cases q)
     obtain ⟨m,hn,hl⟩:=I2.loc;obtain ⟨u,r,l⟩:=hl (i - own.length) y v e1' e2 (.inr kc);refine ⟨u,r,.inr ⟨e3,c,hcl,?_⟩⟩
     rcases l with ⟨l,_⟩ | ⟨_,c',e',q⟩
     ·rcases kc with kc | kc <;> (rw [l] at kc; cases kc)
     ·rw [oksub _ _ hcl] at e'
      cases e';exact q.keeps old
  ·obtain ⟨v,q⟩:=I2.cell y c (oksub _ _ e);exact ⟨v,q.keeps old⟩
  ·show (cB own.length none++σ).length=(own++NN).length;rw [aA,aA,jI,I2.len,ok.len]
 have nDC:s2.heap.objs.size≠P.objs.size:=hDC;have nDf:s2.heap.objs.size∉frs X.stack:=fun z=>by
  rcases au.mp (I2.stkSub _ z) with q | q
  ·exact aO I2.lt (Eq.symm q)
  ·exact I2.nofs (aC _) q
 have loop:∀ s₃:ak,s₃={s2 with heap:=h1,toks:=s2.toks + ([]:List (Str×ae)).length} ->
   lO (aX X.prog X.w) X.A (.compLoop (.ListComp elt [⟨target,iter,ifs,0⟩] scope pos) 0 (.ref it) (.ref s2.heap.objs.size) (compEnvC scope (oR X.env scope.names []) P.objs.size X.env))
    (compPost (aX X.prog X.w) X.A X.xe use Qv (.ref s2.heap.objs.size) P.objs.size) s₃:=by
  rintro s₃ rfl;refine xO (fun n s'=>∃ (i:Nat) (ys:List V) (H':Hp) (its:List ae) (k:Nat),Inv (cxC X scope (own++NN) fp s2 H2 P.objs.size) [] (cB own.length none++σ) H' s'/\tn i s'.heap/\(∀ b∈fp,H' b=none)/\H' s2.heap.objs.size=none/\cU ys its /\
   s'.heap.get? s2.heap.objs.size=some {cls:=.type "list",data:=.seq its.toArray k}/\W i n ys H') ?_ m0
   ⟨0,[],H2,[],0,start,T.keep _ _ _ st2 (fun b _ o e=>old b o e),fun b hb=>(f2 b hb).1,I2.hok.fresh (aC _),.nil,accAt,w0⟩
  rintro n s3 ⟨i,ys,H3,its,k,I3,st3,fr3,nD,rv,hD,w3⟩;have Ip:Inv (cxC X scope (own++NN) fp s2 H2 P.objs.size) [(s2.heap.objs.size,{cls:=.type "list",data:=.seq its.toArray k})] (cB own.length none++σ) H3 s3:=I3.pins_of fun p hp=>by
   have hp':p=(s2.heap.objs.size,{cls:=.type "list",data:=.seq its.toArray k}):=by simpa using hp
   subst hp';exact ⟨hD,nD,nDC,nDf,fun v z=>by cases z⟩
  obtain ⟨hl,hw⟩:=turn i n ys H3 w3
  rcases hw with ⟨stop,fin⟩ | ⟨go,N,hN,step⟩
  ·refine thn (T.done (cxC X scope (own++NN) fp s2 H2 P.objs.size) rfl rfl rfl hc i _ s3 _ H3 _ Ip (fpOk fr3) st3 stop) fun r s4 z=>?_;obtain ⟨hr,I4⟩:=z;subst hr;obtain ⟨m,hn,_⟩:=I4.loc;have hD4:s4.heap.get? s2.heap.objs.size=some {cls:=.type "list",data:=.seq its.toArray k}:=(I4.pin _ (bD _ ax)).1;obtain ⟨h',eh'⟩:∃ h',h'=s4.heap:=⟨_,rfl⟩;have sb':∀ b o,b≠P.objs.size->s4.heap.get? b=some o->h'.get? b=some o:=fun b o hb e=>by rw [eh']; exact e
   have oldNe:∀ b o,s2.heap.get? b=some o->b≠P.objs.size/\b≠s2.heap.objs.size:=fun b o e=>by
    have lt:=aN e;exact ⟨aO (bh lt leC),aO lt⟩
   have trNe:∀ b u,H3 b=some u->b≠P.objs.size/\b≠s2.heap.objs.size:=fun b u e=>by
    refine ⟨fun z=>?_,fun z=>?_⟩
    ·have q:H3 P.objs.size=none:=I4.free;rw [<- z,e] at q
     cases q
    ·rw [z,nD] at e
     cases e
   have un:Un (frs X.stack) fp H2 (upd H3 s2.heap.objs.size (.lst ys)) s2.heap h':=by
    have B:=I4.base;refine ⟨fun b o e q hb hx=>sb' b o (oldNe b o e).1 (B.keep b o e q hb hx),fun b o e q hb hx=>?_,fun b o e q hx=>?_,fun b o e hx=>?_,fun b xs e=>?_,fun b o u e=>?_,fun b ps e=>?_⟩
    ·obtain ⟨sl,e1⟩:=B.slot b o e q hb hx;exact ⟨sl,sb' _ _ (oldNe b o e).1 e1⟩
    ·rw [aH (oldNe b o e).2];exact B.free b o e q hx
    ·obtain ⟨o',e1⟩:=B.there b o e hx;exact ⟨o',sb' _ _ (oldNe b o e).1 e1⟩
    ·have q:=B.tups b xs e;rw [aH (trNe _ _ q).2];exact q
    ·have q:=B.frzs b o u e;rw [aH (trNe _ _ q).2];exact q
    ·obtain ⟨more,q⟩:=B.tbls b ps e;refine ⟨more,?_⟩;rw [aH (trNe _ _ q).2];exact q
   have hok:HOk X.prog X.w (upd H3 s2.heap.objs.size (.lst ys)) h':=fun b u e=>by
    by_cases hb:b=s2.heap.objs.size
    ·subst hb;rw [ah] at e
     cases e;exact ⟨kF hl,its,k,rv,sb' _ _ nDC hD4⟩
    ·rw [aH hb] at e;refine (I4.hok b u e).stay (fun c v hc q=>sb' c v ?_ q) (fun c q=>?_) fun c xs q=>?_
     ·rcases hc with z | z
      ·rw [z];exact (trNe _ _ e).1
      ·exact (trNe _ _ z).1
     ·rw [aH (trNe _ _ q).2];exact q
     ·rw [aH (trNe _ _ q).2];exact q
   have J:=I2.call' (s':={s4 with heap:=h'}) (ch:=fp) I4.os un hok I4.bare fun b hb=>⟨(f2 b hb).2.2.2.1,(f2 b hb).2.1,(f2 b hb).2.2.2.2.1,(f2 b hb).2.2.2.2.2⟩;subst eh';refine hfin s4 P.objs.size s2.heap.objs.size (upd H3 s2.heap.objs.size (.lst ys)) m hn J ?_ ?_ ?_ (fun y c e=>?_) (fun q hq=>?_) (fin _ nD)
   ·rw [aH nDC.symm];exact I4.free
   ·exact oC (bh I2.lt leC)
   ·exact cZ I2.sz leC
   ·obtain ⟨v,z⟩:=I2.cell y c e;exact aO (bh z.lt leC)
   ·exact aO (bh (aN (I2.pin q hq).1) leC)
  ·refine thn (T.item (cxC X scope (own++NN) fp s2 H2 P.objs.size) rfl rfl rfl hc i _ s3 _ H3 _ Ip (fpOk fr3) st3 go) fun r s4 z=>?_;obtain ⟨u,hr,h4⟩:=z;subst hr;refine thn h4 fun _ s5 z=>?_;obtain ⟨x,H5,I5,r5,y5,st5,fr5⟩:=z;have I5':=I5.pinned (fpOk fr5) (T.obj _ _ st5);refine thn (hg fp s2 H2 P.objs.size _ s5 _ H5 x u _ I5' r5 (step x H5 y5)) fun _ s6 z=>?_;obtain ⟨σ6,H6,I6,hσ,q6⟩:=z;refine thn (ht fp s2 H2 P.objs.size _ s6 σ6 H6 _ I6 q6) fun okb s7 z=>?_;obtain ⟨H7,I7,q7⟩:=z;have pinD:∀ {H8:Hp} {s8:ak},Inv (cxC X scope (own++NN) fp s2 H2 P.objs.size) ([(s2.heap.objs.size,{cls:=.type "list",data:=.seq its.toArray k})]++rJ fp s5.heap) σ6 H8 s8 ->
     s8.heap.get? s2.heap.objs.size=some {cls:=.type "list",data:=.seq its.toArray k}/\H8 s2.heap.objs.size=none:=fun I8=>by
    have z:=I8.pin (s2.heap.objs.size,{cls:=.type "list",data:=.seq its.toArray k}) (bD _ (gE _ ax));exact ⟨z.1,z.2.1⟩
   have pinF:∀ {H8:Hp} {s8:ak},Inv (cxC X scope (own++NN) fp s2 H2 P.objs.size) ([(s2.heap.objs.size,{cls:=.type "list",data:=.seq its.toArray k})]++rJ fp s5.heap) σ6 H8 s8 ->
     tn (i + 1) s8.heap/\∀ b∈fp,H8 b=none:=fun {H8 s8} I8=>by
    refine ⟨T.keep _ _ _ st5 fun b hb o e=>(I8.pin (b,o) (bD _ (bD _ (mH hb e)))).1,fun b hb=>?_⟩;obtain ⟨o,e,_⟩:=T.obj _ _ st5 b hb;exact (I8.pin (b,o) (bD _ (bD _ (mH hb e)))).2.1
   have len6:(cB own.length none++σ).length=σ6.length:=by rw [I6.len,start.len]
   cases okb with
   | false =>
    have q7':N ys H7:=q7;obtain ⟨m',lt,w'⟩:=hN _ _ q7';obtain ⟨d1,d2⟩:=pinD I7;obtain ⟨p1,p2⟩:=pinF I7;have J7:Inv (cxC X scope (own++NN) fp s2 H2 P.objs.size) [] σ6 H7 s7:=I7.pins_of (fun p hp=>absurd hp (by simp));exact ⟨m',lt,i + 1,ys,H7,its,k,J7.weak len6 (y7 hσ),p1,p2,d2,rv,d1,w'⟩
   | true =>
    refine thn (he fp s2 H2 P.objs.size _ s7 σ6 H7 _ I7 q7) fun v8 s8 z=>?_;obtain ⟨y,H8,I8,r8,n8⟩:=z;obtain ⟨m',lt,w'⟩:=hN _ _ n8;obtain ⟨d1,d2⟩:=pinD I8;obtain ⟨p1,p2⟩:=pinF I8;refine append_at (hsz:=by rw [aG,<- rv.length]; exact kF hl) d1 fun h9 sb hD9=>?_;have J8:Inv (cxC X scope (own++NN) fp s2 H2 P.objs.size) [] σ6 H8 s8:=I8.pins_of (fun p hp=>absurd hp (by simp));have J9:Inv (cxC X scope (own++NN) fp s2 H2 P.objs.size) [] σ6 H8 {s8 with heap:=h9}:=J8.turned (t':=s8.toks) (it:=s2.heap.objs.size) (fun b o hb e=>sb.extBut b o hb e) d2 nDC (.inr (aC _)) (fun y c e=>aO (cellNe y c e)) (fun p hp=>absurd hp (by simp));refine ⟨m',lt,i + 1,ys++[y],H8,its++[v8],k + 1,J9.weak len6 (y7 hσ),T.keep _ _ _ p1 (fun b hb o e=>sb.extBut b o (aO (fpLt b hb)) e),p2,d2,rv.append (.cons r8 .nil),?_,w'⟩;show h9.get? _=_;rw [hD9,List.push_toArray]
 exact codeAny_compStart_list (loop _ rfl) (T.self X.A 0 _ _ _ (T.keep _ _ _ st2 (fun b _ o e=>old b o e)) (loop _ rfl))
theorem mU {elt target iter:cM} {ifs:List cM} {scope:kE} {NN:List Str} {pos:Pos} {wi:TI} {g:TG} {tc:TT} {te:TE} (own:List Str) (ok:iF X scope NN) (hc:X.calm=true) (hi:PI X target iter wi)
  (hg:∀ fp s₂ H₂ C,PG (cxC X scope (own++NN) fp s₂ H₂ C) target g) (ht:∀ fp s₂ H₂ C,PTs (cxC X scope (own++NN) fp s₂ H₂ C) ifs tc) (he:∀ fp s₂ H₂ C,PE (cxC X scope (own++NN) fp s₂ H₂ C) elt te)
  (hs:∀ x,oo iter X.env x=pure x:=by intro _; rfl):PE X (.ListComp elt [⟨target,iter,ifs,0⟩] scope pos) (uS own.length wi g tc te):=by
 intro pins s σ H Q I h;rw [eval_ListComp];refine y8 (use:=none) own ok hc hi hg ht he hs I h fun s4 C D H' m hn J n1 n2 n3 n4 n5 q=>?_;exact ⟨m,hn,fun h' sb=>⟨.ref D,H',J.turned (t':=s4.toks) (it:=C) (fun b o hb e=>sb.extBut b o hb e) n1 n2 (.inr n3) n4 n5,rfl,q⟩⟩
theorem Bi {elt target iter:cM} {ifs:List cM} {scope:kE} {NN:List Str} {pos pos' spos:Pos} {wi:TI} {g:TG} {tc:TT} {te:TE} {i:Nat} {x:Str} (own:List Str) (ok:iF X scope NN) (hc:X.calm=true) (hN:X.N.Nodup) (hx0:X.N[i]?=some x) (hx:Loc X.env.scope x) (hi:PI X target iter wi)
  (hg:∀ fp s₂ H₂ C,PG (cxC X scope (own++NN) fp s₂ H₂ C) target g) (ht:∀ fp s₂ H₂ C,PTs (cxC X scope (own++NN) fp s₂ H₂ C) ifs tc) (he:∀ fp s₂ H₂ C,PE (cxC X scope (own++NN) fp s₂ H₂ C) elt te)
  (hs:∀ x,oo iter X.env x=pure x:=by intro _; rfl) (hf:X.fn x=true\/X.env.scope.names.lookup x=some .local:=by first | exact .inl rfl | exact .inr rfl | assumption)
  (hsw:sR (.ListComp elt [⟨target,iter,ifs,0⟩] scope pos) (some (.Name x pos')) spos.line X.env=pure true:=by rfl):PS X (.Assign [.Name x pos'] (.ListComp elt [⟨target,iter,ifs,0⟩] scope pos) spos) (HJ (uS own.length wi g tc te) (A3 i)):=by
 intro pins s σ H D I h;rw [exec_Assign_Name_used _ _ _ _ hsw];refine aq (Cf (aq ?_));show aU _ X.A (do let _ <- comprehension (.ListComp elt [⟨target,iter,ifs,0⟩] scope pos) scope X.env _ (newList []) false (fc iter X.env) (some (xo (.Name x pos') X.env))) _ _ s;refine aq (d7 (y8 (use:=some (xo (.Name x pos') X.env)) (Qv:=fun _ s'=>SP X pins D .next s') own ok hc hi hg ht he hs I h fun s4 C DD H' m hn J n1 n2 n3 n4 n5 q=>?_) (fun _ s' hq=>aV (aV hq)) fun _ _ e=>e);show aU _ X.A (xo (.Name x pos') X.env (.ref DD)) _ _ s4;refine M7 (wx J hN hx0 hx (show RelV (.ref DD) (.ref DD) from rfl) (fun s' J' z=>?_) hf);obtain ⟨a,sb,ha⟩:=z;have na:C≠a:=by
  rcases ha with ha | ha
  ·rw [ha];exact n2
  ·exact (n4 x a ha).symm
 refine ⟨m,hn.at' fun o e=>sb.extBut C o na e,fun h' sb2=>⟨_,H',J'.turned (t':=s'.toks) (it:=C) (fun b o hb e=>sb2.extBut b o hb e) n1 n2 (.inr n3) n4 n5,q⟩⟩
end
section
variable {K:af} {a:aa} {xs:List V} {n:Nat} {g:TG} {tc:TT} {te:TE} {σ:St} {H:Hp} {Q:VK}
theorem wM (Pv:Nat->List V->Hp->Prop) (h0:Pv 0 [] H) (hl:∀ i ys H,i<=xs.length->Pv i ys H->SqL K H a xs/\ys.length < aB)
  (hs:∀ i x ys H,xs[i]?=some x->Pv i ys H->g x (cB n none++σ) H fun σ2 H2=>σ2.drop n=σ/\tc σ2 H2 fun b H3=>if b=true then te σ2 H3 fun y H4=>Pv (i + 1) (ys++[y]) H4 else Pv (i + 1) ys H3)
  (hd:∀ ys H,Pv xs.length ys H->∀ p,H p=none->Q (.ref p) (upd H p (.lst ys))) :
  ∃ W:Nat->Nat->List V->Hp->Prop,(∃ m,W 0 m [] H)/\∀ i m ys H,W i m ys H->ys.length < aB/\(((Itl K a).stop i H/\∀ p,H p=none->Q (.ref p) (upd H p (.lst ys))) \/
   ((Itl K a).go i H/\∃ N:List V->Hp->Prop,(∀ ys' H',N ys' H'->∃ m',m' < m/\W (i + 1) m' ys' H')/\∀ x H',(Itl K a).yld i H x H'->g x (cB n none++σ) H' fun σ2 H2=>σ2.drop n=σ/\tc σ2 H2 fun b H3 =>
    if b=true then te σ2 H3 fun y H4=>N (ys++[y]) H4 else N ys H3)):=by
 refine ⟨fun i m ys H=>m=xs.length - i/\i<=xs.length/\Pv i ys H,⟨xs.length,by simp,bT _,h0⟩,?_⟩;rintro i m ys H ⟨rfl,hi,p⟩;obtain ⟨q,z⟩:=hl i ys H hi p;refine ⟨z,?_⟩
 by_cases hlt:i < xs.length
 ·refine .inr ⟨⟨xs,xs[i],q,by simp [hlt]⟩,Pv (i + 1),fun ys' H' p'=>⟨xs.length - (i + 1),by omega,rfl,hlt,p'⟩,fun x H' y=>?_⟩;obtain ⟨e,y⟩:=y;subst e;exact hs i x ys _ (y xs q) p
 ·have e:i=xs.length:=by omega
  subst e;exact .inl ⟨⟨xs,q,aC _⟩,hd ys H p⟩
theorem ES (Pv:Nat->List V->Hp->Prop) (h0:Pv 0 [] H) (hl:∀ i ys H,i<=xs.length->Pv i ys H->SqT K H a xs/\ys.length < aB)
  (hs:∀ i x ys H,xs[i]?=some x->Pv i ys H->g x (cB n none++σ) H fun σ2 H2=>σ2.drop n=σ/\tc σ2 H2 fun b H3=>if b=true then te σ2 H3 fun y H4=>Pv (i + 1) (ys++[y]) H4 else Pv (i + 1) ys H3)
  (hd:∀ ys H,Pv xs.length ys H->∀ p,H p=none->Q (.ref p) (upd H p (.lst ys))) :
  ∃ W:Nat->Nat->List V->Hp->Prop,(∃ m,W 0 m [] H)/\∀ i m ys H,W i m ys H->ys.length < aB/\(((Itt K a).stop i H/\∀ p,H p=none->Q (.ref p) (upd H p (.lst ys))) \/
   ((Itt K a).go i H/\∃ N:List V->Hp->Prop,(∀ ys' H',N ys' H'->∃ m',m' < m/\W (i + 1) m' ys' H')/\∀ x H',(Itt K a).yld i H x H'->g x (cB n none++σ) H' fun σ2 H2=>σ2.drop n=σ/\tc σ2 H2 fun b H3 =>
    if b=true then te σ2 H3 fun y H4=>N (ys++[y]) H4 else N ys H3)):=by
 refine ⟨fun i m ys H=>m=xs.length - i/\i<=xs.length/\Pv i ys H,⟨xs.length,by simp,bT _,h0⟩,?_⟩;rintro i m ys H ⟨rfl,hi,p⟩;obtain ⟨q,z⟩:=hl i ys H hi p;refine ⟨z,?_⟩
 by_cases hlt:i < xs.length
 ·refine .inr ⟨⟨xs,xs[i],q,by simp [hlt]⟩,Pv (i + 1),fun ys' H' p'=>⟨xs.length - (i + 1),by omega,rfl,hlt,p'⟩,fun x H' y=>?_⟩;obtain ⟨e,y⟩:=y;subst e;exact hs i x ys _ (y xs q) p
 ·have e:i=xs.length:=by omega
  subst e;exact .inl ⟨⟨xs,q,aC _⟩,hd ys H p⟩
end
end L2
namespace PySem
theorem xR:Le (.type "list") "keys"=pure none:=by rw [typeLookup_type,builtinLookup_eq_fast]; kernel_rfl
theorem y9:entryFor table "dict.update.loop"=some gX.«dict.update.loop»:=entryFor_of_tree (by kernel_rfl)
section
variable {prog:aJ} {w:bJ} {A:bS} {E:ae->ak->Prop} {s:ak}
theorem Ii {a:aa} {xs:Array ae} {k:Nat} {sl:Array (Option ae)} {Q:Option ae->ak->Prop} (hx:s.heap.get? a=some {cls:=.type "list",dict:=none,data:=.seq xs k,slots:=sl}) (hA:A.handled=none)
  (h:∀ h' tk,(∀ b o,s.heap.get? b=some o->h'.get? b=some o)->Q none {s with heap:=h',toks:=tk}):aU (aX prog w) A (Ij (.ref a) "keys") Q E s:=by
 obtain ⟨hp,g,d,tk,os⟩:=s;have hT:∀ tk',(⟨hp,g,d,tk',os⟩:ak).TypeIs (.ref a) "list":=fun _=>⟨_,hx,rfl⟩;have f1:=sub_AttributeError;have f3:=F.slot_list_getattribute.lookup;have f4:=F.slot_list_getattribute.bind (.ref a);have f5:=am_list_getattr_none;unfold Ij getAttrBy? getAttrBy;have go:∀ (u:Tok) (tk:Nat) (Q:ae->ak->Prop) (E:ae->ak->Prop),(∀ h' tk' e,Heap.NewAttrErr hp h' e (.ref a) "keys"->E (.ref e) ⟨h',g,d,tk',os⟩)->aU (aX prog w) A (vJ (Value.builtin "list.__getattribute__") [.ref a,.str "keys" u]) Q E ⟨hp,g,d,tk,os⟩:=fun u tk Q E k1 =>
  qv F.slot_list_getattribute (hT _) am_entry_list_getattribute (F.args_list_getattribute_2 _ _) (meets_getattribute_miss_list a xs k sl "keys" _ xR (by decide +kernel)) ⟨hx,hA,fun h' tk' e hx'=>k1 h' tk' e hx'⟩
 repeat (any_goals (first | assumption | exact hT _ | refine go _ _ _ _ (fun h' tk' e hx'=>?_) | wp_step))
 obtain ⟨t',u',he⟩:=hx'.there
 repeat (any_goals (first | assumption | wp_step))
 exact h _ _ hx'.keeps
def Ao {prog:aJ} {w:bJ} {K:Type} [DecidableEq K] (knd:KeyKind prog w K) (h:cu) (p:K×ae) (x:ae):Prop:=
 ∃ (a:aa) (kv:ae) (o:Obj) (n:Nat),x=.ref a/\h.get? a=some o/\o.cls=.type "tuple"/\o.data=.seq #[kv,p.2] n/\knd.is p.1 kv=true
variable {K:Type} [DecidableEq K] {knd:KeyKind prog w K}
theorem ET {a:aa} {o:Obj} {n:Nat} {k v:ae} {Q:List ae->ak->Prop} (ho:s.heap.get? a=some o) (hc:o.cls=.type "tuple") (hd:o.data=.seq #[k,v] n) (h:Q [k,v] s):aU (aX prog w) A (t7 (.ref a)) Q E s:=by
 unfold t7;have hT:s.TypeIs (.ref a) "tuple":=⟨o,ho,hc⟩;refine aq (wpAny_typeOf hT ?_);rw [if_pos (by decide)];refine aq (wpAny_seqItems ho hd (aV ?_));exact h
theorem Bj {R:Ew->ak->Prop} {it l d:aa} {items:Array ae} {result:ae} (hA:A.handled=none) (hl:l≠d) (hi:it≠d) (hil:it≠l):∀ (ps:List (K×ae)) (i:Nat) (kvs:List (K×ae)) (s:ak) (t:Tok) (z:Int),
  s.heap.IsListIter it l i->s.heap.IsList l items->s.heap.DictOf knd d kvs->aP (fun p x=>Ao knd s.heap p x/\x≠.ref d/\x≠.ref it) ps (items.toList.drop i)->kvs.length + ps.length<=aB ->
  (∀ h' tk,h'.DictOf knd d (ps.foldl (fun m p=>uN m p.1 p.2) kvs)->(∀ b o,b≠d->b≠it->s.heap.get? b=some o->h'.get? b=some o)->R (.ok (.ret result)) {s with heap:=h',toks:=tk}) ->
  lO (aX prog w) A (.builtin "dict.update.loop" ⟨[.ref d,.ref it,.int z t,result],[]⟩) R s
 | [],i,kvs,s,t,z,hit,hls,hd,hp,hz,h=>by
  have hnil:items.toList.drop i=[]:=by
   have e:=hp.length;exact List.length_eq_zero_iff.mp e.symm
  have hx:items[i]?=none:=by
   have e:=List.drop_eq_nil_iff.mp hnil;simp only [fH] at e;exact Array.getElem?_eq_none e
  refine qF y9 ?_;unfold gX.«dict.update.loop»;dsimp only;refine aq (Hv hA hit hls hx fun h' eb=>?_);dsimp only;refine aq ?_;unfold Builtin.Dict.addKeywords;refine aV ?_;refine aV (h h' _ (hd.extBut eb hi.symm) fun b o _ hb e=>eb b o hb e)
 | p :: ps,i,kvs,s,t,z,hit,hls,hd,hp,hz,h=>by
  cases e0:items.toList.drop i with
  | nil =>
   rw [e0] at hp
   cases hp
  | cons x r =>
   rw [e0] at hp
   cases hp with
   | cons h1 h2 =>
    obtain ⟨⟨a,kv,o,n,rfl,ho,hc,hdt,hk⟩,nd,ni⟩:=h1;have hx:items[i]?=some (.ref a):=by
     have e:=congrArg (fun l=>l[0]?) e0;simpa using e
    have hr:items.toList.drop (i + 1)=r:=by
     have e:=congrArg List.tail e0;simpa using e
    refine qF y9 ?_;unfold gX.«dict.update.loop»;dsimp only;refine aq (El hit hls hx fun h1' hit' sb=>?_);dsimp only;refine aq (dO (aq (wpAny_tryCatch ?_)));have nai:a≠it:=fun q=>ni (by rw [q]);have nad:a≠d:=fun q=>nd (by rw [q]);refine ET (s:={s with heap:=h1'}) ((sb.2 a nai).trans ho) hc hdt ?_;dsimp only;refine dO (wpAny_dictSet_pairs (s:={s with heap:=h1'}) hk (hd.extBut sb.extBut hi.symm) (fun h2' hd2 sb2=>?_) (by simp only [aT] at hz; omega));refine aV ⟨Ea _ (by decide +kernel),?_⟩;have keep:∀ b ob,b≠d->b≠it->s.heap.get? b=some ob->h2'.get? b=some ob:=fun b ob nb1 nb2 e=>sb2.extBut b ob nb1 (sb.extBut b ob nb2 e);refine Bj (items:=items) hA hl hi hil ps (i + 1) (uN kvs p.1 p.2) {s with heap:=h2',toks:=s.toks + 1} _ _ ?_ ?_ hd2 ?_ ?_ ?_
    ·obtain ⟨oi,ei,ci,di⟩:=hit';exact ⟨oi,sb2.extBut it oi hi ei,ci,di⟩
    ·obtain ⟨ol,el,cl⟩:=hls;exact ⟨ol,keep l ol hl hil.symm el,cl⟩
    ·rw [hr];clear e0 hr h hz hd hit hit' hls
     induction h2 with
     | nil=>exact .nil
     | cons q1 q2 ih =>
      refine .cons ?_ ih;obtain ⟨⟨a',kv',o',n',rfl,ho',hc',hdt',hk'⟩,nd',ni'⟩:=q1;exact ⟨⟨a',kv',o',n',rfl,keep a' o' (fun q=>nd' (by rw [q])) (fun q=>ni' (by rw [q])) ho',hc',hdt',hk'⟩,nd',ni'⟩
    ·have hs:(uN kvs p.1 p.2).length<=kvs.length + 1:=by
      unfold uN
      split
      ·rw [ar];omega
      ·simp
     simp only [aT] at hz;omega
    ·intro h' tk hd' k';exact h h' tk hd' fun b ob nb1 nb2 e=>k' b ob nb1 nb2 (keep b ob nb1 nb2 e)
theorem Ik {l:aa} {items:Array ae} {k:Nat} {sl:Array (Option ae)} {ps:List (K×ae)} {Q:ae->ak->Prop} (hA:A.handled=none) (hx:s.heap.get? l=some {cls:=.type "list",dict:=none,data:=.seq items k,slots:=sl})
  (hp:aP (Ao knd s.heap) ps items.toList) (hz:ps.length<=aB)
  (h:∀ h' tk,h'.DictOf knd s.heap.objs.size (ps.foldl (fun m p=>uN m p.1 p.2) [])->(∀ b o,s.heap.get? b=some o->h'.get? b=some o)->Q (.ref s.heap.objs.size) {s with heap:=h',toks:=tk}) :
  aU (aX prog w) A (vJ (.type "dict") [.ref l]) Q E s:=by
 refine callType_codes (Q₁:=fun obj s1=>obj=.ref s.heap.objs.size/\s1={s with heap:=s.heap.push {cls:=.type "dict",data:=.dict #[]}}) F.kt_called_dict (F.kt_typeCall_dict_1 _) F.entry_dict_init (kt_code_dict_new _ ⟨rfl,rfl⟩) ?_;rintro obj s1 ⟨rfl,rfl⟩;have hnew:(s.heap.push {cls:=.type "dict",data:=.dict #[]}).DictOf knd s.heap.objs.size []:=zR s.heap;have up:∀ b o,s.heap.get? b=some o->(s.heap.push {cls:=.type "dict",data:=.dict #[]}).get? b=some o:=fun b o e=>aI _ e;have hlt:=aN hx;refine ⟨hnew.typeIs,F.args_dict_init_2 _ _,?_⟩;unfold gX.«dict.__init__»;refine aq ?_;unfold Builtin.Dict.selfAndRest;refine aq (wpAny_notOrdered_dict hnew.typeIs ?_);show aU _ _ (pure (s.heap.objs.size,[Value.ref l])) _ _ _;refine aV ?_;show aU _ _ (tL "dict.__init__" s.heap.objs.size (.ref l) [] .none) _ _ _;unfold tL;have hT:({s with heap:=s.heap.push {cls:=.type "dict",data:=.dict #[]}}:ak).TypeIs (.ref l) "list":=⟨_,up _ _ hx,rfl⟩;refine aq (wpAny_typeOf hT ?_);rw [if_pos (by decide)];refine aq (Ii (s:={s with heap:=s.heap.push {cls:=.type "dict",data:=.dict #[]}}) (up _ _ hx) hA fun h1 tk1 k1=>?_);rw [if_pos (by rfl)];refine aq (Ap (aq ?_));have hl1:h1.IsList l items:=⟨_,k1 _ _ (up _ _ hx),rfl,k,rfl⟩;refine M8 (s:={s with heap:=h1,toks:=tk1}) hl1 ?_;have sz1:s.heap.objs.size < h1.objs.size:=by
  obtain ⟨o,_,_,e,_⟩:=hnew;exact aN (k1 _ _ e)
 have up2:∀ b o,s.heap.get? b=some o->(h1.push {cls:=.type "list_iterator",data:=.fields #[.ref l,.int 0 0]}).get? b=some o:=fun b o e=>aI _ (k1 _ _ (up _ _ e));refine aV ⟨Ea _ (by decide +kernel),?_⟩;refine Bj (A:=A.in1) (knd:=knd) (items:=items) hA (l:=l) (aO hlt) (oC sz1) (oC (oN hlt sz1)) ps 0 [] _ _ _ ?_ ?_ ?_ ?_ ?_ ?_
 ·exact ⟨_,cj _ rfl,rfl,rfl⟩
 ·exact hl1.push _
 ·obtain ⟨o,es,ep,e,r⟩:=hnew;exact ⟨o,es,ep,aI _ (k1 _ _ e),r⟩
 ·rw [wN];clear h hz;generalize items.toList=xs at hp
  induction hp with
  | nil=>exact .nil
  | cons q1 q2 ih =>
   refine .cons ?_ ih;obtain ⟨a,kv,o,n,rfl,ho,hc,hd,hk⟩:=q1;have la:=aN ho;refine ⟨⟨a,kv,o,n,rfl,up2 _ _ ho,hc,hd,hk⟩,fun q=>?_,fun q=>?_⟩
   ·injection q with q;exact aO la q
   ·injection q with q;exact aO (oN la sz1) q
 ·simpa using hz
 ·intro h' tk hd k';refine ⟨rfl,h h' tk hd fun b o e=>k' b o ?_ ?_ (up2 b o e)⟩
  ·exact aO (aN e)
  ·exact aO (oN (aN e) sz1)
end
end PySem
namespace L2
open PySem PySem.Spec PyProof.Rows
section
variable {X:Cx}
theorem wO {n:Nat} (h:n < 2 ^ 64):n.log2 < 9000:=by
 by_cases z:n=0
 ·subst z;decide
 ·exact oN ((Nat.log2_lt z).mpr h) (by decide)
def JW (_ j:Int):Prop:=0 < j/\j < 2 ^ 64
theorem uT:OpR X (g9 .FloorDiv) (rI JW fun i j=>.int (i / j)):=opI fun i j _ _ _ _ _ hc q=>by
 have h1:(0:Int) < j:=hc.1;have h2:j < 2 ^ 64:=hc.2;have h3:j.natAbs < 2 ^ 64:=by omega
 exact Eo (by omega) (by rw [xr i (by omega)]; exact q) (.inl (vV (wO h3)))
def CDivM (_ j:Int):Prop:=j≠0/\j.natAbs < 2 ^ 64
theorem EU:OpR X (g9 .FloorDiv) (rI CDivM fun i j=>.int (i.fdiv j)):=opI fun _ _ _ _ _ _ _ hc q=>Eo hc.1 q (.inl (vV (wO hc.2)))
theorem Il:OpR X (g9 .Mult) (rI IntMulOk fun i j=>.int (i * j)):=opI fun _ _ _ _ _ _ _ hc q=>mul_int q hc
theorem jL:jH X (.builtin "isinstance") (fun xs H Q=>∃ x n t b,xs=[x,.ty n]/\rN X.K H x t/\dP X.K t (.type n)=some b/\Q (.bl b) H):=by
 intro pins s σ H xs us Q I r h;obtain ⟨x,n,t,b,rfl,ty,e,q⟩:=h;obtain ⟨u,w',rfl,rx,rt⟩:=vals2 r
 cases (show w'=Value.type n from rt);exact Cs I rx ty e fun tk=>⟨.bl b,H,I.tok _,rfl,q⟩
def t8 (H:Hp):List (Key×V)->List V->Prop:=aP fun (p:Key×V) x=>∃ a,x=V.ref a/\H a=some (.tup [kV p.1,p.2])
theorem EV {P:aJ} {w:bJ} {H:Hp} {h:cu} (ok:HOk P w H h):∀ {ps:List (Key×V)} {vs:List V} {us:List ae},t8 H ps vs->cU vs us->∃ qs:List (Key×ae),KV ps qs/\aP (Ao (eM P w) h) qs us:=by
 intro ps vs us r;unfold t8 at r
 induction r generalizing us with
 | nil =>
  intro v
  cases v;exact ⟨[],.nil,.nil⟩
 | @cons p x ps vs q1 q2 ih =>
  intro v
  cases v with
  | cons r1 r2 =>
   obtain ⟨a,rfl,ha⟩:=q1;obtain ⟨qs,k1,k2⟩:=ih r2
   cases r1;obtain ⟨_,its,rv,o,ho,hc,n,hd⟩:=(show eB P w H h a (.tup [kV p.1,p.2]) from ok a _ ha);obtain ⟨ku,vu,rfl,rk,rw'⟩:=vals2 rv;exact ⟨(p.1,vu) :: qs,.cons ⟨rfl,rw'⟩ k1,.cons ⟨a,ku,o,n,rfl,ho,hc,hd,uO rk⟩ k2⟩
theorem Im {ps:List (Key×V)} {qs:List (Key×ae)} (r:KV ps qs):∀ {m:List (Key×V)} {n:List (Key×ae)},KV m n->KV (ps.foldl (fun m p=>iE m p.1 p.2) m) (qs.foldl (fun m p=>uN m p.1 p.2) n):=by
 unfold KV at r
 induction r with
 | nil =>
  intro m n k;exact k
 | @cons p q ps qs h t ih =>
  intro m n k;obtain ⟨h1,h2⟩:=h;rw [vG,vG,<- h1];exact ih (k.put p.1 h2)
theorem za (ps:List (Key×V)):∀ m:List (Key×V),(ps.foldl (fun m p=>iE m p.1 p.2) m).length<=m.length + ps.length:=by
 induction ps with
 | nil =>
  intro m;exact aC _
 | cons p ps ih =>
  intro m;rw [vG,aT];have h1:=ih (iE m p.1 p.2);have h2:=kR m p.1 p.2;omega
theorem Aq (hc:X.calm=true):jH X (.type "dict") (fun xs H Q=>∃ p vs ps,xs=[V.ref p]/\H p=some (.lst vs)/\t8 H ps vs/\ps.length<=aB/\∀ d,H d=none->Q (.ref d) (upd H d (.dK (ps.foldl (fun m p=>iE m p.1 p.2) [])))):=by
 intro pins s σ H xs us Q I r h;obtain ⟨p,vs,ps,rfl,hp,pi,hz,q⟩:=h;obtain ⟨u,rfl,ru⟩:=vals1 r
 cases ru;obtain ⟨_,its,n,rv,ho⟩:=(show eB X.prog X.w H s.heap p (.lst vs) from I.hok p _ hp);obtain ⟨qs,k1,k2⟩:=EV I.hok pi rv;refine Ik (knd:=eM X.prog X.w) (I.ok.hd hc) ho k2 (by rw [<- k1.length]; exact hz) fun h' tk hd kk=>?_;have hf:=Im k1 (m:=[]) (n:=[]) .nil;have hl:=za ps [];refine ⟨.ref s.heap.objs.size,_,I.laid (a:=s.heap.objs.size) (o:=.dK (ps.foldl (fun m p=>iE m p.1 p.2) [])) (t':=tk) kk (aC _) ?_,rfl,q _ (I.hok.fresh (aC _))⟩;exact xH (by simp only [cK] at hl; omega) (beq_eq_false_iff_ne.mpr (fj (aO I.big))) hf hd
end
end L2
namespace Att
open PySem PySem.W PySem.Calls PyProof.Rows
theorem weight_mem:∀ (xs:List WData) (x:WData),x∈xs->j9 x<=uU xs
 | [],_,h=>by cases h
 | y :: r,x,h=>by
  unfold uU
  rcases au.mp h with e | e
  ·subst e;omega
  ·have:=weight_mem r x e;omega
theorem bits_of_lay {ns:List Int} (h:WData.layableAll [WData.list (ns.map WData.int)]=true):∀ n∈ns,eP n<=1048576:=fun n hn=>by
 have h1:(WData.list (ns.map WData.int)).layable=true:=(layW_cons h).1;unfold WData.layable at h1;have h2:j9 (WData.list (ns.map WData.int))<=2 ^ 20:=of_decide_eq_true (qe.mp h1).2;have h3:=weight_mem (ns.map WData.int) (WData.int n) (cC.mpr ⟨n,hn,rfl⟩);have h4:j9 (WData.list (ns.map WData.int))=uU (ns.map WData.int):=by
  rw [j9]
 have h5:j9 (WData.int n)=eP n:=by
  rw [j9];rfl
 have e:(2:Nat) ^ 20=1048576:=by decide
 omega
theorem attach_callB {l:OpenLaw} {n:Nat} {q:aJ} {loose:List Str} {XP:(Str->Option ae)->cu->Prop} {YP:bJ->cu->Prop} {d:DefRec}
  (hn:l.most=some n) (hdf:d.params.defaults=[])
  (vJ:∀ (w:bJ) (s₀ s₁:ak) (mg mb:Str->Option ae) (fa:aa) (a:aa) (vs:List ae) (ns:List Int),
   Ground q loose [] XP w s₀ mg mb s₁.heap->YP w s₁.heap->mg d.name=some (.ref fa) ->
   s₁.heap.get? a=some {cls:=.type "list",data:=.seq vs.toArray}->eF vs ns->ns.length<=n->(∀ x∈ns,eP x<=1048576)->s₁.gens=#[] ->
   lO (aX l.prog w) vS (.call (.ref fa) ⟨[.ref a],[]⟩) (fun r s'=>r=.ok (.ret (.bool true))/\OldK s₁.heap s'.heap/\s'.os=s₁.os/\oj s'.gens) s₁) :
  WalkO q loose XP YP l.row.toRowW d [] (fun f vs=>CH f vs):=by
 intro w s₀ s₁ mg mb G Y fa o pm cd doc dV kV ho hd hcd hD hmg hg args vals as hpre hlay hrd hwl hlo;obtain rfl:dV=.none:=Dflts.none hD hdf;obtain rfl:kV=.none:=Dflts.noKw hD;obtain ⟨a,vs,ns,rfl,rfl,hobj,hints,hlen⟩:=script_of hn hpre hwl;refine enter_call (jS (vJ w s₀ s₁ mg mb fa a vs ns G Y hmg hobj hints hlen (bits_of_lay hlay) hg) fun r s' hq=>?_);obtain ⟨rfl,h2,h3,h4⟩:=hq;exact ⟨.inl ⟨.bool true,.bool true,[],rfl,fun _=>rfl,.bool true,post_true l _,fun _=>⟨List.Pairwise.nil,fun _ hm=>(nomatch hm)⟩⟩,h2,h3,h4⟩
end Att
namespace L2
open PySem PySem.Spec PyProof.Rows
theorem walk_ofB {l:tM} {n k:Nat} {q:aJ} {loose:List Str} {XP:(Str->Option ae)->cu->Prop} {YP:bJ->cu->Prop} {d:DefRec} {K:Params->af} {CX:bJ->CXT} {sp:bJ->Sp} {x:Str}
  (hn:l.most=some n) (hn2:n<=aB) (hdf:d.params.defaults=[]) (hr:c5 k vS)
  (hY:∀ (w:bJ) (h:cu),YP w h->(K w.params).In h)
  (F:∀ (w:bJ) (mg:Str->Option ae) (fa:aa) (h:cu),(K w.params).In h->h.Ns aW mg->mg d.name=some (.ref fa) ->
   ∃ fd:bR,(∀ (s:ak) (u:ae),sV s fd ⟨[u],[]⟩ [(x,u)]) /\
    ∀ base:cu,(K w.params).In base->base.Ns aW mg->bA l.prog w (K w.params) mg base (CX w) k fa fd [x] (sp w))
  (hsp:∀ (w:bJ) (H:Hp) (a:aa) (ns:List Int),ns.length<=n->(∀ x∈ns,eP x<=1048576)->SqL (K w.params) H a (ns.map V.int)->sp w [.ref a] H (fun v _=>v=.bl true) fun _ _ _=>False)
  (hCX:∀ (w:bJ) (H:Hp) (s:ak) (e:ae) (s':ak),CX w [] H s (fun _ _ _=>False) e s'->False) :
  Hy q loose XP YP l.row.toRowW d [] (fun f vs=>CH f vs):=by
 refine Att.attach_callB hn hdf fun w s₀ s₁ mg mb fa a vs ns G Y hmg hobj hints hlen hbits hg=>?_;have KX:=hY w _ Y;obtain ⟨fd,hb,hF⟩:=F w mg fa _ KX G.T.g hmg;exact EL KX G.T.g G.T.b G.T.builtins G.T.nolimit hg hobj hints (cZ hlen hn2) hr hF hb (fun H hO hS=>hsp w H a ns hlen hbits hS) fun H e s'=>hCX w H s₁ e s'
end L2
namespace PySem
open SeqAt MeetsSeq MeetsSeq2 MeetsSeq3 SeqRoads2
open AutoSeq1 (wpAny_loadPart')
def lE (prog:aJ) (w:bJ) (A:bS) (s:ak) (y x:ae):Prop:=
 ∀ (E:ae->ak->Prop) (Q:Bool->ak->Prop),Q true s->aU (aX prog w) A (eqBool y x) Q E s
def RcIn (prog:aJ) (w:bJ) (A:bS) (s:ak) (y x:ae):Prop:=
 ∀ (E:ae->ak->Prop) (Q:ae->ak->Prop),Q (.bool true) s->aU (aX prog w) A (rQ .Eq y x) Q E s
section
variable {prog:aJ} {w:bJ} {A:bS} {s:ak}
theorem lE.of_at {y x:ae} (h:EqAt A s y x true):lE prog w A s y x:=fun E Q q=>h prog w E Q q
theorem lE.self (v:ae):lE prog w A s v v:=lE.of_at (EqAt.same v)
theorem lE.refs {l b:aa} (h:RcIn prog w A s (.ref l) (.ref b)):lE prog w A s (.ref l) (.ref b):=by
 by_cases e:l=b
 ·rw [e];exact lE.self _
 ·intro E Q q;unfold eqBool;refine dO (wpAny_ite_split (fun z=>?_) (fun _=>?_))
  ·exact absurd (by have z':=eq_of_beq z; injection z') e
  ·exact aq (h E _ (iH q))
theorem Io (l b:aa) (xs ys:Array ae) (n m:Nat) (dd de:Option aa) (sl sm:Array (Option ae)) (hsz:xs.size=ys.size):∀ k i:Nat,xs.size - i=k ->
  MeetsIn prog w (gX.«list.__eq__.loop» ⟨[.ref l,.ref b,rH i,rH 2],[]⟩) (fun A R s =>
   s.heap.get? l=some {cls:=.type "list",dict:=dd,data:=.seq xs n,slots:=sl}/\s.heap.get? b=some {cls:=.type "list",dict:=de,data:=.seq ys m,slots:=sm} /\
   (∀ j (h1:j < xs.size) (h2:j < ys.size),lE prog w A.in1 s xs[j] ys[j])/\R (.ok (.ret (.bool true))) s):=by
 intro k
 induction k with
 | zero =>
  intro i hk A R s q;obtain ⟨hp,g,d,tk,os⟩:=s;obtain ⟨q1,q2,q3,q4⟩:=q;have a1:xs[((i:Nat):Int).toNat]?=none:=by simp; omega
  have a2:ys[((i:Nat):Int).toNat]?=none:=by simp; omega
  wp_walk using dE q1,dE q2
  rw [a1,a2]
  wp_walk using dE q1,dE q2
  show R (.ok (.ret (.bool (xs.size == ys.size)))) _;rw [hsz,beq_self_eq_true];exact q4
 | succ k ih =>
  intro i hk A R s q;obtain ⟨hp,g,d,tk,os⟩:=s;obtain ⟨q1,q2,q3,q4⟩:=q;have l1:i < xs.size:=by omega
  have l2:i < ys.size:=by omega
  have a1:xs[((i:Nat):Int).toNat]?=some xs[i]:=by simp [l1]
  have a2:ys[((i:Nat):Int).toNat]?=some ys[i]:=by simp [l2]
  have e1:((i:Int) + 1)=((i + 1:Nat):Int):=by push_cast; rfl
  wp_walk using dE q1,dE q2
  rw [a1,a2];refine aq (q3 i l1 l2 _ _ ?_)
  wp_walk
  rw [e1];refine ⟨plainId_quiet plain_eq_loop _,qF entry_eq_loop ?_⟩;rw [zS plain_eq_loop _];exact ih (i + 1) (by omega) A R _ ⟨q1,q2,q3,q4⟩
theorem Iq (l b:aa) (xs ys:Array ae) (n m:Nat) (dd de:Option aa) (sl sm:Array (Option ae)) (hsz:xs.size=ys.size) :
  MeetsIn prog w (gX.«list.__eq__» ⟨[.ref l,.ref b],[]⟩) (fun A R s =>
   s.heap.get? l=some {cls:=.type "list",dict:=dd,data:=.seq xs n,slots:=sl}/\s.heap.get? b=some {cls:=.type "list",dict:=de,data:=.seq ys m,slots:=sm} /\
   (∀ j (h1:j < xs.size) (h2:j < ys.size),lE prog w A.in1 s xs[j] ys[j])/\R (.ok (.ret (.bool true))) s):=by
 intro A R s q;obtain ⟨hp,g,d,tk,os⟩:=s;obtain ⟨q1,q2,q3,q4⟩:=q;have f1:=AutoSeq1.sub_list_list;have f2:¬ (xs.size != ys.size)=true:=by simp [hsz]
 wp_walk using dE q1,dE q2
 refine ⟨plainId_quiet plain_eq_loop _,qF entry_eq_loop ?_⟩;rw [zS plain_eq_loop _];exact Io l b xs ys n m dd de sl sm hsz _ 0 rfl A R _ ⟨q1,q2,q3,q4⟩
theorem RcIn.lists {l b:aa} {xs ys:Array ae} (hl:s.heap.IsList l xs) (hb:s.heap.IsList b ys) (hsz:xs.size=ys.size) (hu:A.units < eO)
  (he:∀ j (h1:j < xs.size) (h2:j < ys.size),lE prog w A.in1 s xs[j] ys[j]):RcIn prog w A s (.ref l) (.ref b):=fun E Q q=>by
 obtain ⟨⟨c1,dd,t1,sl⟩,o1,rfl,n,rfl⟩:=id hl;obtain ⟨⟨c2,de,t2,sm⟩,o2,rfl,m,rfl⟩:=id hb;refine zT (op:=.Eq) ⟨_,o1,rfl⟩ ⟨_,o2,rfl⟩ F.slot_list_eq (EW F.slot_list_eq ⟨_,o1,rfl⟩ F.entry_list_eq (F.args_list_eq_2 _ _) (Iq l b xs ys n m dd de sl sm hsz) ⟨o1,o2,he,?_⟩) hu;exact ⟨fun z=>(nomatch z),q⟩
variable {K:Type} [DecidableEq K] {knd:KeyKind prog w K}
theorem pairs_at {es:List DictEntry} {kvs:List (K×ae)} (h:Pairs knd es kvs):∀ {i:Nat} {e:DictEntry},es[i]?=some e->∃ kv,kvs[i]?=some kv/\knd.is kv.1 e.key=true/\e.val=kv.2:=by
 induction h with
 | nil =>
  intro i e q;simp at q
 | cons a b _ ih =>
  intro i e q
  cases i with
  | zero =>
   simp at q;subst q;exact ⟨_,rfl,a,b⟩
  | succ i =>
   obtain ⟨kv,z⟩:=ih (i:=i) (by simpa using q);exact ⟨kv,by simpa using z.1,z.2⟩
theorem EX {nm:String} {d b:aa} {kvs kws:List (K×ae)} {Q:Bool->ak->Prop} {E:ae->ak->Prop} (hd:(d == eQ)=false) (hb:(b == eQ)=false) (m1:s.heap.DictOf knd d kvs) (m2:s.heap.DictOf knd b kws)
  (hl:kvs.length=kws.length) (he:∀ kv∈kvs,∃ v',oq kws kv.1=some v'/\lE prog w A s kv.2 v') (q:Q true s):aU (aX prog w) A (t9 nm d b) Q E s:=by
 obtain ⟨o1,es,ep,h1,x1,t1,k1,p1,n1⟩:=id m1;obtain ⟨o2,fs,fp,h2,x2,t2,k2,p2,n2⟩:=id m2;have z1:es.size=kvs.length:=by rw [<- p1.length,fH]
 have z2:fs.size=kws.length:=by rw [<- p2.length,fH]
 unfold t9;unfold Builtin.Dict.showsAll;rw [if_neg (by rw [hd]; exact aY),if_neg (by rw [hb]; exact aY)];refine aq (aV (aq (aV ?_)));refine aq (oy h1 t1 (aq (oy h2 t2 ?_)));rw [if_neg (by rw [z1,z2,hl]; simp)];refine aq (wpAny_dictEpoch h1 t1 (aq ?_));rw [JX];simp only [JY,Nat.sub_zero,EY,Nat.div_one];refine pZ _ (fun rest r s'=>s'=s/\r.1=none/\∃ i,rest=List.range' i (es.size - i)/\i<=es.size) _ ?_ ?_ _ _ ⟨rfl,rfl,0,by simp,bT _⟩
 ·rintro x rest ⟨r1,r2⟩ s' ⟨rfl,e1,i,hr,hi⟩;have lt:i < es.size:=by
   rcases tN i es.size with z | z
   ·exact z
   ·rw [Nat.sub_eq_zero_of_le z] at hr;simp at hr
  obtain ⟨rfl,hrest⟩:x=i/\rest=List.range' (i + 1) (es.size - (i + 1)):=by
   rw [show es.size - i=(es.size - (i + 1)) + 1 by omega,List.range'_succ] at hr;injection hr with a1 a2;exact ⟨a1,a2⟩
  obtain ⟨kv,y1,y2,y3⟩:=pairs_at p1 (i:=x) (e:=es[x]) (by simp [lt]);obtain ⟨kk,y4,y5⟩:=k1 es[x] (Array.getElem_mem lt);have y6:kk=kv.1:=knd.inj _ _ _ y4 y2;subst y6;obtain ⟨v',g1,g2⟩:=he kv (bV y1);obtain ⟨o3,fs',fp',a1,_,a2,a3,hf⟩:=m2.mapOf;rw [h2] at a1
  cases a1;rw [t2] at a2
  cases a2;rw [<- hf kv.1,findBy_of_findIdx?] at g1;refine aq (oy h1 t1 ?_);rw [Array.getElem?_eq_getElem lt];dsimp only;refine aq (dO (aq ?_));rw [y5];refine wpAny_dictFind_of y2 h2 t2 k2 ?_
  cases hj:fs.findIdx? fun e=>knd.is kv.1 e.key with
  | none =>
   rw [hj] at g1
   cases g1
  | some j =>
   rw [hj] at g1;dsimp only at g1 |-;refine aq (oy h2 t2 ?_)
   cases hx:fs[j]? with
   | none =>
    simp [hx] at g1
   | some fe =>
    have g3:fe.val=v':=by simpa [hx] using g1
    dsimp only;refine dO ?_;rw [y3,g3];refine g2 _ _ ?_;rw [if_neg (by decide)];refine aq (wpAny_dictEpoch h1 t1 ?_);rw [if_neg (by simp)];exact aV ⟨rfl,rfl,x + 1,hrest,lt⟩
 ·rintro ⟨r1,r2⟩ s' ⟨rfl,e1,_⟩;have e1:r1=none:=e1;subst e1;exact aV q
theorem CI (d b:aa) (hd:(d == eQ)=false) (hb:(b == eQ)=false) :
  MeetsIn prog w (gX.«dict.__eq__» ⟨[.ref d,.ref b],[]⟩) (fun A R s=>∃ kvs kws,s.heap.DictOf knd d kvs/\s.heap.DictOf knd b kws/\kvs.length=kws.length /\
   (∀ kv∈kvs,∃ v',oq kws kv.1=some v'/\lE prog w A.in1 s kv.2 v')/\R (.ok (.ret (.bool true))) s):=
 .of_wp fun A R s h=>by
  obtain ⟨kvs,kws,m1,m2,hl,he,q⟩:=h;unfold gX.«dict.__eq__»;show aU _ _ (rS "__eq__" ⟨[.ref d,.ref b],[]⟩ >>= _) _ _ s;refine aq ?_;unfold rS;unfold Builtin.Dict.notOrdered;rw [if_neg (by decide)];refine aq (aV ?_);show aU _ _ (pure (Value.ref d,Value.ref b)) _ _ s;refine aV ?_;dsimp only;refine aq (wpAny_isInstance m2.typeIs isSubtype_dict_dict ?_);rw [if_neg (by decide)];refine aq (aV (aq (aV (aq (EX hd hb m1 m2 hl he ?_)))));exact aV ⟨_,rfl,q⟩
theorem RcIn.dicts {d b:aa} {kvs kws:List (K×ae)} (hd:(d == eQ)=false) (hb:(b == eQ)=false) (m1:s.heap.DictOf knd d kvs) (m2:s.heap.DictOf knd b kws) (hl:kvs.length=kws.length) (hu:A.units < eO)
  (he:∀ kv∈kvs,∃ v',oq kws kv.1=some v'/\lE prog w A.in1 s kv.2 v'):RcIn prog w A s (.ref d) (.ref b):=fun E Q q =>
 zT (op:=.Eq) m1.typeIs m2.typeIs F.slot_dict_eq (EW F.slot_dict_eq m1.typeIs F.entry_dict_eq (F.args_dict_eq_2 _ _) (CI (knd:=knd) d b hd hb) ⟨kvs,kws,m1,m2,hl,he,⟨fun z=>(nomatch z),q⟩⟩) hu
end
end PySem
namespace L2
open PySem PySem.Spec PyProof.Rows PySem.SeqAt
def sc0:V->Prop
 | .int _=>True
 | .str _=>True
 | .bl _=>True
 | .non=>True
 | _=>False
def TEq (H:Hp):Nat->V->V->Prop
 | 0,x,y=>sc0 x/\x=y
 | n + 1,x,y=>(sc0 x/\x=y)\/(∃ p q xs ys,x=.ref p/\y=.ref q/\H p=some (.lst xs)/\H q=some (.lst ys)/\aP (TEq H n) xs ys) \/
   ∃ p q xs ys,x=.ref p/\y=.ref q/\H p=some (.tup xs)/\H q=some (.tup ys)/\aP (TEq H n) xs ys
def DEq (H:Hp):Nat->V->V->Prop
 | 0,x,y=>∃ n,n<=20/\TEq H n x y
 | n + 1,x,y=>(∃ n,n<=20/\TEq H n x y)\/(∃ p q xs ys,x=.ref p/\y=.ref q/\H p=some (.lst xs)/\H q=some (.lst ys)/\aP (DEq H n) xs ys) \/
   ∃ p q kvs kws,x=.ref p/\y=.ref q/\H p=some (.dK kvs)/\H q=some (.dK kws)/\aP (fun (a b:Key×V)=>a.1=b.1/\DEq H n a.2 b.2) kvs kws
section
variable {P:aJ} {w:bJ} {H:Hp} {s:ak}
theorem lR {R:V->V->Prop}:∀ {xs ys:List V} {us vs:List ae},aP R xs ys->cU xs us->cU ys vs->us.length=vs.length/\∀ j (h1:j < us.length) (h2:j < vs.length),∃ x y,R x y/\RelV x us[j]/\RelV y vs[j]:=by
 intro xs ys us vs p
 induction p generalizing us vs with
 | nil =>
  intro a b
  cases a
  cases b;exact ⟨rfl,fun j h1=>absurd h1 (hW _)⟩
 | cons r rs ih =>
  intro a b
  cases a with
  | cons a as =>
  cases b with
  | cons b bs =>
  obtain ⟨e,z⟩:=ih as bs;refine ⟨by rw [aT,aT,e],fun j h1 h2=>?_⟩
  cases j with
  | zero=>exact ⟨_,_,r,a,b⟩
  | succ j=>exact z j (oS h1) (oS h2)
theorem Bk {A:bS} {x:V} {u v:ae} (h:sc0 x) (ru:RelV x u) (rv:RelV x v):EqAt A s u v true:=by
 cases x with
 | non=>cases ru; cases rv; exact EqAt.same _
 | bl b=>cases ru; cases rv; exact EqAt.same _
 | int i =>
  obtain ⟨t,rfl⟩:=ru;obtain ⟨t',rfl⟩:=rv;have z:=EqAt.int_int (A:=A) (s:=s) i t i t';rw [beq_self_eq_true] at z;exact z
 | str i =>
  obtain ⟨t,rfl⟩:=ru;obtain ⟨t',rfl⟩:=rv;have z:=EqAt.str_str (A:=A) (s:=s) i t i t';rw [beq_self_eq_true] at z;exact z
 | byt b=>exact h.elim
 | flt b=>exact h.elim
 | ref a=>exact h.elim
 | ty a=>exact h.elim
theorem gZ (ok:HOk P w H s.heap) {p:aa} {xs:List V} (h:H p=some (.lst xs)):∃ us:List ae,cU xs us/\s.heap.IsList p us.toArray:=by
 obtain ⟨_,us,n,r,e⟩:=(show eB P w H s.heap p (.lst xs) from ok p _ h);exact ⟨us,r,_,e,rfl,n,rfl⟩
theorem iM (ok:HOk P w H s.heap) {p:aa} {xs:List V} (h:H p=some (.tup xs)):∃ us:List ae,cU xs us/\s.heap.IsTuple p us.toArray:=by
 obtain ⟨_,us,r,o,e,c,n,d⟩:=(show eB P w H s.heap p (.tup xs) from ok p _ h);exact ⟨us,r,o,e,c,n,d⟩
theorem qP (n:Nat):((oh n).all fun _=>true)=true:=by simp
theorem zb (ok:HOk P w H s.heap) {R:V->V->Prop} {A:bS} {p q:aa} {xs ys:List V} (hu:A.units < eO) (h1:H p=some (.lst xs)) (h2:H q=some (.lst ys)) (r:aP R xs ys)
  (he:∀ x y u v,R x y->RelV x u->RelV y v->EqAt A.in1 s u v true):RcAt A s (.ref p) (.ref q) true:=by
 obtain ⟨us,r1,i1⟩:=gZ ok h1;obtain ⟨vs,r2,i2⟩:=gZ ok h2;obtain ⟨e,z⟩:=lR r r1 r2;have k:=RcAt.lists (e:=fun _=>true) i1 i2 (by simpa using e) hu (fun j a b=>by
  obtain ⟨x,y,rr,rx,ry⟩:=z j (by simpa using a) (by simpa using b);simpa using he _ _ _ _ rr rx ry)
 rw [qP] at k;exact k
theorem Bm (ok:HOk P w H s.heap) {R:V->V->Prop} {A:bS} {p q:aa} {xs ys:List V} (hu:A.units < eO) (h1:H p=some (.tup xs)) (h2:H q=some (.tup ys)) (r:aP R xs ys)
  (he:∀ x y u v,R x y->RelV x u->RelV y v->EqAt A.in1 s u v true):RcAt A s (.ref p) (.ref q) true:=by
 obtain ⟨us,r1,i1⟩:=iM ok h1;obtain ⟨vs,r2,i2⟩:=iM ok h2;obtain ⟨e,z⟩:=lR r r1 r2;have k:=RcAt.tuples (e:=fun _=>true) i1 i2 hu (fun j a b=>by
  obtain ⟨x,y,rr,rx,ry⟩:=z j (by simpa using a) (by simpa using b);simpa using he _ _ _ _ rr rx ry)
 rw [qP,Lu,aG,aG,e,beq_self_eq_true] at k;exact k
theorem EqAt.of_rc {A:bS} {l b:aa} (h:RcAt A s (.ref l) (.ref b) true):EqAt A s (.ref l) (.ref b) true:=by
 by_cases e:l=b
 ·rw [e];exact EqAt.same _
 ·exact EqAt.of_refs e h
theorem oU (ok:HOk P w H s.heap):∀ {n:Nat} {A:bS} {x y:V} {u v:ae},A.units + n < eO->TEq H n x y->RelV x u->RelV y v->EqAt A s u v true
 | 0,A,x,y,u,v,hu,h,ru,rv=>by
  obtain ⟨h1,rfl⟩:=h;exact Bk h1 ru rv
 | n + 1,A,x,y,u,v,hu,h,ru,rv=>by
  have hin:A.in1.units + n < eO:=by
   show A.units + 1 + n < eO;omega
  rcases h with ⟨h1,rfl⟩ | ⟨p,q,xs,ys,rfl,rfl,h1,h2,r⟩ | ⟨p,q,xs,ys,rfl,rfl,h1,h2,r⟩
  ·exact Bk h1 ru rv
  ·cases ru
   cases rv;exact EqAt.of_rc (zb ok (by omega) h1 h2 r fun _ _ _ _ z a b=>oU ok hin z a b)
  ·cases ru
   cases rv;exact EqAt.of_rc (Bm ok (by omega) h1 h2 r fun _ _ _ _ z a b=>oU ok hin z a b)
theorem uV (ok:HOk P w H s.heap) {R:V->V->Prop} {A:bS} {p q:aa} {xs ys:List V} (hu:A.units < eO) (h1:H p=some (.lst xs)) (h2:H q=some (.lst ys)) (r:aP R xs ys)
  (he:∀ x y u v,R x y->RelV x u->RelV y v->lE P w A.in1 s u v):RcIn P w A s (.ref p) (.ref q):=by
 obtain ⟨us,r1,i1⟩:=gZ ok h1;obtain ⟨vs,r2,i2⟩:=gZ ok h2;obtain ⟨e,z⟩:=lR r r1 r2;exact RcIn.lists i1 i2 (by simpa using e) hu (fun j a b=>by
  obtain ⟨x,y,rr,rx,ry⟩:=z j (by simpa using a) (by simpa using b);simpa using he _ _ _ _ rr rx ry)
theorem Ir {κ:Type} {R:κ×V->κ×V->Prop}:∀ {kvs kws:List (κ×V)} {us vs:List (κ×ae)},aP R kvs kws->KV kvs us->KV kws vs->us.length=vs.length/\∀ (i:Nat) (q:κ×ae),us[i]?=some q->∃ q' a b,vs[i]?=some q'/\R a b/\a.1=q.1/\b.1=q'.1/\RelV a.2 q.2/\RelV b.2 q'.2:=by
 intro kvs kws us vs p
 induction p generalizing us vs with
 | nil =>
  intro a b
  cases a
  cases b;exact ⟨rfl,fun i q h=>by simp at h⟩
 | cons r rs ih =>
  intro a b
  cases a with
  | cons a as =>
  cases b with
  | cons b bs =>
  obtain ⟨e,z⟩:=ih as bs;refine ⟨by rw [aT,aT,e],fun i q h=>?_⟩
  cases i with
  | zero =>
   simp at h;subst h;exact ⟨_,_,_,rfl,r,a.1,b.1,a.2,b.2⟩
  | succ i =>
   obtain ⟨q',x,y,h1,h2⟩:=z i q (by simpa using h);exact ⟨q',x,y,by simpa using h1,h2⟩
theorem uW (ok:HOk P w H s.heap) {R:V->V->Prop} {A:bS} {p q:aa} {kvs kws:List (Key×V)} (hu:A.units < eO) (h1:H p=some (.dK kvs)) (h2:H q=some (.dK kws)) (r:aP (fun (a b:Key×V)=>a.1=b.1/\R a.2 b.2) kvs kws)
  (he:∀ x y u v,R x y->RelV x u->RelV y v->lE P w A.in1 s u v):RcIn P w A s (.ref p) (.ref q):=by
 obtain ⟨_,n1,us,k1,m1⟩:=(show eB P w H s.heap p (.dK kvs) from ok p _ h1);obtain ⟨_,n2,vs,k2,m2⟩:=(show eB P w H s.heap q (.dK kws) from ok q _ h2);obtain ⟨e,z⟩:=Ir r k1 k2;refine RcIn.dicts n1 n2 m1 m2 e hu fun kv hkv=>?_;obtain ⟨i,hi⟩:=dM hkv;obtain ⟨q',a,b,g1,⟨g2,g3⟩,g4,g5,g6,g7⟩:=z i kv hi;obtain ⟨_,_,_,_,_,_,_,_,nd⟩:=id m2;have g8:vs[i]?=some (kv.1,q'.2):=by
  rw [g1,<- g4,g2,g5]
 exact ⟨q'.2,valueAt_of_get nd g8,he _ _ _ _ g3 g6 g7⟩
theorem xT (ok:HOk P w H s.heap):∀ {n:Nat} {A:bS} {x y:V} {u v:ae},A.units + n + 20 < eO->DEq H n x y->RelV x u->RelV y v->lE P w A s u v
 | 0,A,x,y,u,v,hu,h,ru,rv=>by
  obtain ⟨m,h0,h1⟩:=h;exact lE.of_at (oU ok (by omega) h1 ru rv)
 | n + 1,A,x,y,u,v,hu,h,ru,rv=>by
  have hin:A.in1.units + n + 20 < eO:=by
   show A.units + 1 + n + 20 < eO;omega
  rcases h with ⟨m,h0,h1⟩ | ⟨p,q,xs,ys,rfl,rfl,h1,h2,r⟩ | ⟨p,q,kvs,kws,rfl,rfl,h1,h2,r⟩
  ·exact lE.of_at (oU ok (by omega) h1 ru rv)
  ·cases ru
   cases rv;exact lE.refs (uV ok (by omega) h1 h2 r fun _ _ _ _ z a b=>xT ok hin z a b)
  ·cases ru
   cases rv;exact lE.refs (uW ok (by omega) h1 h2 r fun _ _ _ _ z a b=>xT ok hin z a b)
end
section
variable {X:Cx}
theorem Lv (hu:X.A.units + 50 < eO):OpR X (dv .Eq) (fun x y H Q=>∃ n p q,n<=20/\x=.ref p/\y=.ref q/\DEq H n x y/\Q (.bl true) H):=by
 intro pins s σ H x y v u Q I rx ry h;obtain ⟨n,p,q,hn,rfl,rfl,d,k⟩:=h
 cases rx
 cases ry;have fin:EP X pins σ Q (.bool true) s:=⟨.bl true,H,I,rfl,k⟩;have hu1:X.A.units < eO:=by omega
 have main:RcIn X.prog X.w X.A s (.ref p) (.ref q):=by
  have hin:∀ m,m<=20->X.A.in1.units + m < eO:=fun m hm=>by
   show X.A.units + 1 + m < eO;omega
  have tq:∀ m,m<=20->TEq H m (.ref p) (.ref q)->RcIn X.prog X.w X.A s (.ref p) (.ref q):=fun m hm t=>by
   cases m with
   | zero=>exact t.1.elim
   | succ m =>
    rcases t with ⟨h1,_⟩ | ⟨p',q',xs,ys,e1,e2,h1,h2,r⟩ | ⟨p',q',xs,ys,e1,e2,h1,h2,r⟩
    ·exact h1.elim
    ·cases e1
     cases e2;intro E Q' k';exact zb I.hok hu1 h1 h2 r (fun _ _ _ _ z a b=>oU I.hok (hin m (by omega)) z a b) X.prog X.w E Q' k'
    ·cases e1
     cases e2;intro E Q' k';exact Bm I.hok hu1 h1 h2 r (fun _ _ _ _ z a b=>oU I.hok (hin m (by omega)) z a b) X.prog X.w E Q' k'
  cases n with
  | zero =>
   obtain ⟨m,hm,t⟩:=d;exact tq m hm t
  | succ n =>
   have hin2:X.A.in1.units + n + 20 < eO:=by
    show X.A.units + 1 + n + 20 < eO;omega
   rcases d with ⟨m,hm,t⟩ | ⟨p',q',xs,ys,e1,e2,h1,h2,r⟩ | ⟨p',q',kvs,kws,e1,e2,h1,h2,r⟩
   ·exact tq m hm t
   ·cases e1
    cases e2;exact uV I.hok hu1 h1 h2 r fun _ _ _ _ z a b=>xT I.hok hin2 z a b
   ·cases e1
    cases e2;exact uW I.hok hu1 h1 h2 r fun _ _ _ _ z a b=>xT I.hok hin2 z a b
 exact main _ _ fin
theorem EZ (hu:X.A.units + 50 < eO):OpR X (dv .NotEq) (fun x y H Q=>∃ n p q,n<=20/\x=.ref p/\y=.ref q/\TEq H n x y/\Q (.bl false) H):=by
 intro pins s σ H x y v u Q I rx ry h;obtain ⟨n,p,q,hn,rfl,rfl,d,k⟩:=h
 cases rx
 cases ry;have fin:EP X pins σ Q (.bool false) s:=⟨.bl false,H,I,rfl,k⟩;have hu1:X.A.units < eO:=by omega
 cases n with
 | zero=>exact d.1.elim
 | succ m =>
  have hin:X.A.in1.units + m < eO:=by
   show X.A.units + 1 + m < eO;omega
  rcases d with ⟨h1,_⟩ | ⟨p',q',xs,ys,e1,e2,h1,h2,r⟩ | ⟨p',q',xs,ys,e1,e2,h1,h2,r⟩
  ·exact h1.elim
  ·cases e1
   cases e2;obtain ⟨us,r1,i1⟩:=gZ I.hok h1;obtain ⟨vs,r2,i2⟩:=gZ I.hok h2;obtain ⟨e,z⟩:=lR r r1 r2;have k:=RcNeAt.lists (A:=X.A) (e:=fun _=>true) i1 i2 (by simpa using e) hu1 (fun j a b=>by
    obtain ⟨x,y,rr,rx,ry⟩:=z j (by simpa using a) (by simpa using b);simpa using oU I.hok hin rr rx ry)
   rw [qP] at k;exact k X.prog X.w _ _ fin
  ·cases e1
   cases e2;obtain ⟨us,r1,i1⟩:=iM I.hok h1;obtain ⟨vs,r2,i2⟩:=iM I.hok h2;obtain ⟨e,z⟩:=lR r r1 r2;have k:=RcNeAt.tuples (A:=X.A) (e:=fun _=>true) i1 i2 hu1 (fun j a b=>by
    obtain ⟨x,y,rr,rx,ry⟩:=z j (by simpa using a) (by simpa using b);simpa using oU I.hok hin rr rx ry)
   rw [qP,Lu,aG,aG,e,beq_self_eq_true] at k;exact k X.prog X.w _ _ fin
theorem Iu {A:bS} {k:Nat} (hr:c5 k A):A.units + 50 < eO:=by
 have:=hr.un;omega
end
end L2
namespace PySem
open Sem (wp)
section
variable {prog:aJ} {w:bJ} {A:bS} {E:ae->ak->Prop} {s:ak}
end
section
variable {prog:aJ} {w:bJ} {A:bS} {R:Ew->ak->Prop} {I:aa} {fp wr:List aa} {n:Nat} {P:Nat->ae->Prop} {St:Nat->cu->Prop} {G:cu->Prop}
end
section
variable {prog:aJ} {w:bJ} {A:bS} {E:ae->ak->Prop} {s:ak}
end
section
variable {prog:aJ} {w:bJ} {K:Type} [DecidableEq K] {knd:HeapKind prog w K} {A:bS} {E:ae->ak->Prop} {s:ak}
end
section
variable {prog:aJ} {w:bJ} {A:bS} {E:ae->ak->Prop} {s:ak}
end
end PySem
namespace HT
theorem Ar:∀ a:List Int,lexLt a a=false
 | []=>rfl
 | x :: r=>by rw [j7,if_pos rfl]; exact Ar r
theorem lx_trans:∀ {a b c:List Int},lexLt a b=true->lexLt b c=true->lexLt a c=true
 | [],[],_,h,_=>by cases h
 | [],_ :: _,[],_,h=>by cases h
 | [],_ :: _,_ :: _,_,_=>rfl
 | _ :: _,[],_,h,_=>by cases h
 | _ :: _,_ :: _,[],_,h=>by cases h
 | x :: a,y :: b,z :: c,h,k=>by
  rw [j7] at h k |-
  by_cases e:x=y
  ·subst e;rw [if_pos rfl] at h
   by_cases f:x=z
   ·subst f;rw [if_pos rfl] at k |-;exact lx_trans h k
   ·rw [if_neg f] at k |-;exact k
  ·rw [if_neg e] at h;have h:=of_decide_eq_true h
   by_cases f:y=z
   ·subst f;rw [if_neg e];exact decide_eq_true h
   ·rw [if_neg f] at k;have k:=of_decide_eq_true k;rw [if_neg (by omega)];exact decide_eq_true (by omega)
theorem qQ:∀ {a b:List Int},lexLt a b=false->lexLt b a=false->a=b
 | [],[],_,_=>rfl
 | [],_ :: _,h,_=>by cases h
 | _ :: _,[],_,h=>by cases h
 | x :: a,y :: b,h,k=>by
  rw [j7] at h k
  by_cases e:x=y
  ·subst e;rw [if_pos rfl] at h k;rw [qQ h k]
  ·rw [if_neg e] at h;rw [if_neg (fun z=>e z.symm)] at k;have h:=of_decide_eq_false h;have k:=of_decide_eq_false k;exact absurd (by omega) e
theorem lx_asym {a b:List Int} (h:lexLt a b=true):lexLt b a=false:=by
 cases e:lexLt b a with
 | false=>rfl
 | true =>
  have z:=lx_trans h e;rw [Ar] at z
  cases z
theorem lx_of_not {a b:List Int} (h:lexLt a b=false) (n:a≠b):lexLt b a=true:=by
 cases e:lexLt b a with
 | true=>rfl
 | false=>exact absurd (qQ h e) n
open PySem PyProof.Rows
open PySem.SeqAt
open PySem.AutoSeq1 (wpAny_loadPart')
open PySem.MeetsSeq PySem.MeetsSeq2 PySem.MeetsSeq3
theorem Iv (l b:aa) (xs ys:Array ae) (n m:Nat) (dd de:Option aa) (sl sm:Array (Option ae)) (ns ms:List Int) (hi:eF xs.toList ns) (hj:eF ys.toList ms) :
  Meets (gX.«tuple.__gt__» ⟨[.ref l,.ref b],[]⟩)
   (fun _ R s=>s.heap.get? l=some {cls:=.type "tuple",dict:=dd,data:=.seq xs n,slots:=sl}/\s.heap.get? b=some {cls:=.type "tuple",dict:=de,data:=.seq ys m,slots:=sm}/\R (.ok (.ret (.bool (lexLt ms ns)))) s):=
 .of_wp fun prog w A R s h=>by
  obtain ⟨hp,g,d,tk,os⟩:=s;obtain ⟨hl,hb,h⟩:=h;have f2:=kP;have z1:xs.size=ns.length:=by rw [<- hi.length]; simp
  have z2:ys.size=ms.length:=by rw [<- hj.length]; simp
  wp_walk using dE hl,dE hb,pZ _ (fun rest b s'=>b.1=none/\s'=⟨hp,g,d,tk,os⟩/\∃ (vs ws:List ae) (ns' ms':List Int),rest=vs.zip ws /\
   eF vs ns'/\eF ws ms'/\ns'.length + ys.size=ms'.length + xs.size/\R (.ok (.ret (.bool (lexLt ms' ns')))) ⟨hp,g,d,tk,os⟩) _
  case turn =>
   rintro ⟨y,x⟩ rest b s' ⟨hb',rfl,vs,ws,ns',ms',hz,hv,hw,hlen,hR⟩
   cases hv with
   | nil=>rw [EC] at hz; cases hz
   | cons a t hv =>
    cases hw with
    | nil=>rw [DQ] at hz; cases hz
    | cons c u hw =>
     rw [gm] at hz;injection hz with hyx hrest;injection hyx with hy hx;subst hy hx;rw [j7] at hR;simp only [aT] at hlen;obtain ⟨e,he,hiff⟩:=yO A.in1 ⟨hp,g,d,tk,os⟩ a t c u;refine aq (he prog w _ _ ?_)
     cases e with
     | true =>
      rw [if_pos (hiff.mp rfl).symm] at hR
      wp_walk
      exact ⟨rfl,rfl,_,_,_,_,hrest,hv,hw,by omega,hR⟩
     | false =>
      rw [if_neg (fun q=>absurd (hiff.mpr q.symm) aY)] at hR;have hri:∀ (E:ae->ak->Prop) (Q:ae->ak->Prop),Q (.bool (decide (a > c))) ⟨hp,g,d,tk,os⟩->aU (aX prog w) A.in1 (rQ .Gt (.int a t) (.int c u)) Q E ⟨hp,g,d,tk,os⟩:=fun E Q q =>
       (PyProof.Rows.gt_int q:aU (aX prog w) A.in1 (dv .Gt (.int a t) (.int c u)) Q E _)
      wp_walk using hri
      exact ⟨_,rfl,by simpa using hR⟩
  case fin =>
   rintro ⟨b1,b2⟩ s' ⟨hb',rfl,vs,ws,ns',ms',hz,hvi,hwi,hlen,hR⟩;simp only at hb';subst hb';have hv:lexLt ms' ns'=decide (ys.size < xs.size):=by
    cases hvi with
    | nil =>
     cases hwi with
     | nil =>
      simp only [cK] at hlen;rw [p9];exact (decide_eq_false (by omega)).symm
     | cons c u hw =>
      simp only [cK,aT] at hlen;rw [oI];exact (decide_eq_false (by omega)).symm
    | cons a t hv =>
     cases hwi with
     | nil =>
      simp only [cK,aT] at hlen;rw [oH];exact (decide_eq_true (by omega)).symm
     | cons c u hw =>
      rw [gm] at hz
      cases hz
   rw [hv] at hR
   wp_walk
   exact ⟨_,rfl,by simpa [pJ] using hR⟩
  case h =>
   exact ⟨rfl,rfl,xs.toList,ys.toList,ns,ms,rfl,hi,hj,by omega,h⟩
theorem gt_tup {prog:aJ} {w:bJ} {A:bS} {E:ae->ak->Prop} {s:ak} {l b:aa} {xs ys:Array ae} {ns ms:List Int} {Q:ae->ak->Prop} (hl:tS s.heap l xs) (hb:tS s.heap b ys) (hi:eF xs.toList ns) (hj:eF ys.toList ms)
  (hu:A.units < eO) (h:Q (.bool (lexLt ms ns)) s):aU (aX prog w) A (dv .Gt (.ref l) (.ref b)) Q E s:=by
 obtain ⟨⟨c1,dd,t1,sl⟩,o1,rfl,n,rfl⟩:=id hl;obtain ⟨⟨c2,de,t2,sm⟩,o2,rfl,m,rfl⟩:=id hb;exact qq (op:=.Gt) ⟨_,o1,rfl⟩ ⟨_,o2,rfl⟩ yE xU (wQ _ _) (Iv l b xs ys n m dd de sl sm ns ms hi hj)
  ⟨o1,o2,show Value.bool (lexLt ms ns)≠Value.notImplemented/\Q (.bool (lexLt ms ns)) s from ⟨(fun x=>nomatch x),h⟩⟩ hu
end HT
namespace L2
open PySem PySem.Spec PyProof.Rows
theorem tf:∀ {ns ms:List Int},ns.map V.int=ms.map V.int->ns=ms
 | [],[],_=>rfl
 | [],_ :: _,h=>by cases h
 | _ :: _,[],h=>by cases h
 | x :: a,y :: b,h=>by
  injection h with h1 h2;injection h1 with h1;rw [h1,tf h2]
section
variable {X:Cx}
theorem wR {P:aJ} {w:bJ} {H:Hp} {s:ak} (ok:HOk P w H s.heap) {A:bS} {a b:aa} {ns ms:List Int} (hu:A.units < eO) (ha:H a=some (.tup (ns.map V.int))) (hb:H b=some (.tup (ms.map V.int))) :
  vN A s (.ref a) (.ref b) (decide (ns=ms)):=by
 by_cases e:a=b
 ·subst e;rw [ha] at hb;injection hb with hb;injection hb with hb;rw [tf hb,decide_eq_true rfl];exact Ah _
 ·obtain ⟨us,r1,i1⟩:=iM ok ha;obtain ⟨vs,r2,i2⟩:=iM ok hb;have k1:eF us ns:=intsAre_of r1;have k2:eF vs ms:=intsAre_of r2;have at_:∀ {us:List ae} {ns:List Int},eF us ns->∀ (j:Nat) (h:j < us.length),∃ (z:Int) (t:Tok),us[j]=.int z t/\ns[j]?=some z:=by
   intro us ns k
   induction k with
   | nil=>intro j h; exact absurd h (hW _)
   | cons z t _ ih =>
    intro j h
    cases j with
    | zero=>exact ⟨z,t,rfl,rfl⟩
    | succ j=>exact ih j (oS h)
  have rc:=SeqAt.RcAt.tuples (A:=A) (e:=fun j=>decide (ns[j]?=ms[j]?)) i1 i2 hu fun j h1 h2=>by
   obtain ⟨x,t,e1,e2⟩:=at_ k1 j (by simpa using h1);obtain ⟨y,t',e3,e4⟩:=at_ k2 j (by simpa using h2);rw [e2,e4];have z:=pI (A:=A.in1) (s:=s) x t y t';have q:(x == y)=decide (some x=some y):=by
    by_cases e:x=y
    ·subst e; simp
    ·have e':¬ some x=some y:=fun q=>e (dH q);rw [decide_eq_false e',beq_eq_false_iff_ne.mpr e]
   rw [q] at z;simpa [e1,e3] using z
  have fin:((oh (min us.toArray.size vs.toArray.size)).all (fun j=>decide (ns[j]?=ms[j]?)) && us.toArray.size == vs.toArray.size)=decide (ns=ms):=by
   have l1:us.toArray.size=ns.length:=by rw [aG]; exact k1.length
   have l2:vs.toArray.size=ms.length:=by rw [aG]; exact k2.length
   rw [l1,l2]
   by_cases c:ns=ms
   ·subst c;simp
   ·rw [decide_eq_false c,Bool.and_eq_false_iff]
    by_cases l:ns.length=ms.length
    ·left
     rw [List.all_eq_false];refine ua fun no=>c (E1 fun j=>?_)
     by_cases hj:j < ns.length
     ·refine ua fun ne=>no ⟨j,JJ.mpr (by omega),?_⟩;rw [decide_eq_false ne];simp
     ·rw [gs (by omega),gs (by omega)]
    ·right
     exact beq_eq_false_iff_ne.mpr l
  rw [fin] at rc;exact SeqAt.EqAt.of_refs e rc
open Classical in
def Iw:V->List V->Hp->VK->Prop:=fun x vs H Q=>∃ l xs i y,x=.ref l/\vs=[.int (i:Nat),y]/\H l=some (.lst xs)/\i<=xs.length/\xs.length < aB/\Q .non (upd H l (.lst (xs.take i++y :: xs.drop i)))
theorem CJ:MtM X "list.insert" Iw:=by
 intro pins s σ H x vs v us Q I rx rv h;obtain ⟨l,xs,i,y,rfl,rfl,hH,hi,hz,q⟩:=h
 cases rx;obtain ⟨u,w',rfl,ru,rw'⟩:=rv.two;obtain ⟨t,rfl⟩:=ru;obtain ⟨z,its,n,r,hl,e⟩:=I.lstM hH;have hz1:its.toArray.size<=aB:=by rw [aG]; omega
 generalize hx:((i:Nat):Int)=x;have fit:rC x=true:=by
  have s63:aB=16777216:=kH;exact fitsIndex_both (by omega) (by omega)
 have nfit:¬ (!rC x)=true:=by rw [fit]; exact aY
 refine qv F.slot_list_insert ⟨_,e,rfl⟩ F.entry_list_insert (F.args_list_insert_3 _ _ _) (Ng l its.toArray n x t w' nfit hz1) ⟨e,?_⟩;refine ⟨.non,_,I.lset (its':=its.take i++w' :: its.drop i) hH e ?_ ((r.take i).append (.cons rw' (r.drop i))) ?_,rfl,q⟩
 ·have k:(if x < 0 then (x + (its.toArray.size:Int)).toNat else min x.toNat its.toArray.size)=i:=by
   rw [if_neg (by omega),aG];omega
  show (its.toArray.extract 0 (if x < 0 then (x + (its.toArray.size:Int)).toNat else min x.toNat its.toArray.size)).push w'++its.toArray.extract (if x < 0 then (x + (its.toArray.size:Int)).toNat else min x.toNat its.toArray.size)=_;rw [k];apply Array.toList_inj.mp;simp [List.extract_eq_take_drop];exact zU (by rw [nU]; exact aC _)
 ·rw [aA,aT,df,nU];omega
theorem Bn {z:V} (h:sc0 z):scal z z=true:=by
 cases z with
 | non=>rfl
 | bl b=>rfl
 | int i=>rfl
 | str x=>rfl
 | byt b=>exact cH h
 | flt b=>exact cH h
 | ref a=>exact cH h
 | ty a=>exact cH h
theorem Lw (hu:X.A.units + 50 < eO):OpR X (dv .Eq) (fun x y H Q=>∃ n,n<=20/\TEq H n x y/\Q (.bl true) H):=by
 intro pins s σ H x y v u Q I rx ry h;obtain ⟨n,hn,d,q⟩:=h;have sc:∀ z,sc0 z->x=z->y=z->aU (aX X.prog X.w) X.A (dv .Eq v u) (EP X pins σ Q) X.xe s:=by
  rintro z hz rfl rfl;refine e7 pins s σ H _ _ v u Q I rx ry ⟨Bn hz,?_⟩;rw [decide_eq_true rfl];exact q
 have rf:∀ p q',x=.ref p->y=.ref q'->aU (aX X.prog X.w) X.A (dv .Eq v u) (EP X pins σ Q) X.xe s:=fun p q' e1 e2 =>
  Lv hu pins s σ H x y v u Q I rx ry ⟨0,p,q',by omega,e1,e2,⟨n,hn,d⟩,q⟩
 cases n with
 | zero=>exact sc x d.1 rfl d.2.symm
 | succ n =>
  rcases d with ⟨h1,h2⟩ | ⟨p,q',_,_,e1,e2,_⟩ | ⟨p,q',_,_,e1,e2,_⟩
  ·exact sc x h1 rfl h2.symm
  ·exact rf p q' e1 e2
  ·exact rf p q' e1 e2
theorem E2 (hu:X.A.units + 50 < eO):OpR X (dv .NotEq) (fun x y H Q=>∃ n,n<=20/\TEq H n x y/\Q (.bl false) H):=by
 intro pins s σ H x y v u Q I rx ry h;obtain ⟨n,hn,d,q⟩:=h;have sc:∀ z,sc0 z->x=z->y=z->aU (aX X.prog X.w) X.A (dv .NotEq v u) (EP X pins σ Q) X.xe s:=by
  rintro z hz rfl rfl;refine JN pins s σ H _ _ v u Q I rx ry ⟨Bn hz,?_⟩;rw [decide_eq_true rfl];exact q
 have rf:∀ p q',x=.ref p->y=.ref q'->aU (aX X.prog X.w) X.A (dv .NotEq v u) (EP X pins σ Q) X.xe s:=fun p q' e1 e2 =>
  EZ hu pins s σ H x y v u Q I rx ry ⟨n,p,q',hn,e1,e2,d,q⟩
 cases n with
 | zero=>exact sc x d.1 rfl d.2.symm
 | succ n =>
  rcases d with ⟨h1,h2⟩ | ⟨p,q',_,_,e1,e2,_⟩ | ⟨p,q',_,_,e1,e2,_⟩
  ·exact sc x h1 rfl h2.symm
  ·exact rf p q' e1 e2
  ·exact rf p q' e1 e2
end
section
variable {X:Cx} {pins:List (aa×Obj)} {σ:St} {H:Hp} {s:ak} {d:aa}
theorem Inv.swap {o o':HO} (I:Inv X pins σ H s) (e:H d=some o) (nt:∀ xs,o≠.tup xs) (nb:∀ ps,o≠.tbl ps) (nw:∀ a,o≠.own a) (nf:∀ ob u,X.H₀ d≠some (.frz ob u)) (ok:eB X.prog X.w (upd H d o') s.heap d o'):Inv X pins σ (upd H d o') s:=by
 have no:∀ b,H b=none->upd H d o' b=none:=fun b z=>by
  rw [aH (av e z).symm];exact z
 have tp:∀ b xs,H b=some (.tup xs)->upd H d o' b=some (.tup xs):=fun b xs z=>by
  rw [aH (nF z e (fun q=>nt xs q.symm))];exact z
 have ow:∀ b a,H b=some (.own a)->upd H d o' b=some (.own a):=fun b a z=>by
  rw [aH (nF z e (fun q=>nw a q.symm))];exact z
 refine ⟨I.ok,I.os,I.bare,⟨I.base.keep,I.base.slot,fun b ob q n hx=>no b (I.base.free b ob q n hx),I.base.there,fun b xs q=>tp b xs (I.base.tups b xs q),fun b ob u q=>?_,fun b ps q=>?_⟩,I.loc,I.cell,no _ I.free,fun x c q=>no c (I.freeC x c q),fun p hp=>?_,fun b u q=>?_,I.len⟩
 ·have z:=I.base.frzs b ob u q;have nd:b≠d:=fun y=>nf ob u (by rw [<- y]; exact q);rw [aH nd];exact z
 ·obtain ⟨more,z⟩:=I.base.tbls b ps q;refine ⟨more,?_⟩;rw [aH (nF z e (fun y=>nb _ y.symm))];exact z
 ·obtain ⟨h1,h2,h3⟩:=I.pin p hp;exact ⟨h1,no _ h2,h3⟩
 ·by_cases z:b=d
  ·subst z;rw [ah] at q
   cases q;exact ok
  ·rw [aH z] at q;exact (I.hok b u q).stay (fun c v _ y=>y) (fun c y=>ow c b y) tp
theorem Inv.freeze {kvs:List (Key×V)} (I:Inv X pins σ H s) (e:H d=some (.dK kvs)) (nf:∀ ob u,X.H₀ d≠some (.frz ob u)):∃ od,s.heap.get? d=some od/\Inv X pins σ (upd H d (.frz od (.dK kvs))) s:=by
 obtain ⟨h1,h2,vs,r,ob,es,ep,g1,g2⟩:=(show eB X.prog X.w H s.heap d (.dK kvs) from I.hok d _ e);exact ⟨ob,g1,I.swap e (fun xs z=>by cases z) (fun ps z=>by cases z) (fun a z=>by cases z) nf ⟨g1,h1,h2,vs,r,ob,es,ep,g1,g2⟩⟩
theorem Inv.thaw {kvs:List (Key×V)} {od:Obj} (I:Inv X pins σ H s) (e:H d=some (.frz od (.dK kvs))) (nf:∀ ob u,X.H₀ d≠some (.frz ob u)):Inv X pins σ (upd H d (.dK kvs)) s:=by
 obtain ⟨_,h1⟩:=(show eB X.prog X.w H s.heap d (.frz od (.dK kvs)) from I.hok d _ e);exact I.swap e (fun xs z=>by cases z) (fun ps z=>by cases z) (fun a z=>by cases z) nf h1
end
def Iti (d:aa) (od:Obj) (kvs:List (Key×V)):It:=
 ⟨fun i H=>H d=some (.frz od (.dK kvs))/\i < kvs.length,fun i H x H'=>∃ t kv,x=.ref t/\H t=none/\kvs[i]?=some kv/\H'=upd H t (.tup [kV kv.1,kv.2]),fun i H=>H d=some (.frz od (.dK kvs))/\kvs.length<=i⟩
theorem KV.at_ {kvs:List (Key×V)} {vs:List (Key×ae)} (r:KV kvs vs):∀ {i:Nat} {kv:Key×V},kvs[i]?=some kv->∃ u,vs[i]?=some (kv.1,u)/\RelV kv.2 u:=by
 induction r with
 | nil=>intro i kv h; simp at h
 | cons a _ ih =>
  intro i kv h
  cases i with
  | zero =>
   simp at h;subst h;exact ⟨_,by rw [List.getElem?_cons_zero,a.1],a.2⟩
  | succ i =>
   obtain ⟨u,h1,h2⟩:=ih (by simpa using h);exact ⟨u,by simpa using h1,h2⟩
theorem Lx {P:aJ} {w:bJ} {k:Key} {u:ae} (h:(eM P w).is k u=true):RelV (kV k) u:=by
 rcases fY h with ⟨i,t,rfl,rfl⟩ | ⟨x,t,rfl,rfl⟩
 ·exact ⟨t,rfl⟩
 ·exact ⟨t,rfl⟩
theorem rT:entryFor table "dict_itemiterator.__iter__"=some gX.«dict_keyiterator.__iter__»:=
 entryFor_alias (id':="dict_keyiterator.__iter__") (by kernel_rfl) rfl (by decide +kernel) (by kernel_rfl)
section
variable {P:aJ} {w:bJ} {K:af}
def Iy (o:Obj):Nat:=match o.data with | .dict _ ep=>ep | _=>0
theorem As {X:Cx} {pins:List (aa×Obj)} {σ:St} {H:Hp} {s:ak} {d:aa} {od:Obj} {kvs:List (Key×V)} (I:Inv X pins σ H s) (e:H d=some (.frz od (.dK kvs))):∃ vs,KV kvs vs/\s.heap.DictAt (eM X.prog X.w) d vs (Iy od):=by
 obtain ⟨g0,h1,h2,vs,r,ob,es,ep,g1,g2,g3,g4⟩:=(show eB X.prog X.w H s.heap d (.frz od (.dK kvs)) from I.hok d _ e);rw [g0] at g1
 cases g1;have ee:Iy od=ep:=by
  unfold Iy;rw [g3]
 rw [ee];exact ⟨vs,r,od,es,g0,g2,g3,g4⟩
theorem Au {elts:List cM} {x1} {pos:Pos} (d it:aa) (od:Obj) (kvs:List (Key×V)) (hne:d≠it):Cg P w K (.Tuple elts x1 pos) (Iti d od kvs) [it] it (fun i h=>∃ ok ov,IsItemIter h it d i kvs.length (Iy od) ok ov) where
 mem:=by simp
 obj:=fun i h st b hb=>by
  have e:b=it:=by simpa using hb
  subst e;obtain ⟨ok,ov,e⟩:=st;exact ⟨_,e,fun v z=>by cases z⟩
 keep:=fun i h h' ⟨ok,ov,st⟩ k=>⟨ok,ov,k it (by simp) _ st⟩
 item:=by
  intro X hP hw hK hc i pins s σ H E I hf st hg;subst hP hw hK;obtain ⟨ok,ov,st⟩:=st;obtain ⟨hd,hi⟩:=hg;obtain ⟨vs,r,da⟩:=As I hd;have hl:=r.length;have hkv:kvs[i]?=some kvs[i]:=aM hi;obtain ⟨u,hu,ru⟩:=r.at_ hkv;obtain ⟨f0,f1,f2,f3,f4,f5⟩:=hf it (by simp);rw [hl] at st;refine wpAny_pyNext_items_item st da hu fun key h' hk hit' ht' hz' kp=>?_;have I1:Inv X pins σ H {s with heap:=h'}:=I.turned (t':=s.toks) (fun b o hb e=>kp b o hb e) f0 f1 f3 f4 f5;refine ⟨_,rfl,wpAny_letOwnedTupleGo_items hit' fun h2 hit2 sb=>?_⟩;have I2:Inv X pins σ H {s with heap:=h2}:=I1.turned (t':=s.toks) (fun b o hb e=>sb.extBut b o hb e) f0 f1 f3 f4 f5;have fr:H s.heap.objs.size=none:=I.hok.fresh (aC _);have nit:s.heap.objs.size≠it:=(aO (aN st)).symm;have e2:h2.get? s.heap.objs.size=some {cls:=.type "tuple",data:=.seq #[key,u]}:=sb.extBut _ _ nit ht';have I3:Inv X pins σ (upd H s.heap.objs.size (.tup [kV kvs[i].1,kvs[i].2])) {s with heap:=h2}:=by
   have kall:∀ b v,s.heap.get? b=some v->b≠it->h2.get? b=some v:=fun b v q n=>sb.extBut b v n (kp b v n q);exact ⟨I2.ok,I2.os,I2.bare,⟨I2.base.keep,I2.base.slot,fun b ob q n hx=>by
     have z:=I2.base.free b ob q n hx
     by_cases y:b=s.heap.objs.size
     ·exfalso;have lt:b < s.heap.objs.size:=bh (aN q) I.sz;rw [y] at lt;exact absurd lt (gJ _)
     ·rw [aH y];exact z,I2.base.there,fun b xs q=>by
     rw [aH (av (I2.base.tups b xs q) fr)];exact I2.base.tups b xs q,fun b ob v q=>by
     rw [aH (av (I2.base.frzs b ob v q) fr)];exact I2.base.frzs b ob v q,fun b ps q=>by
     obtain ⟨m,z⟩:=I2.base.tbls b ps q;exact ⟨m,by rw [aH (av z fr)]; exact z⟩⟩,I2.loc,I2.cell,by
     rw [aH (aO I.lt)];exact I2.free,fun x c q=>by
     obtain ⟨v,y⟩:=I.cell x c q;rw [aH (aO y.lt)];exact I2.freeC x c q,fun p hp=>by
     obtain ⟨h1,h2',h3⟩:=I2.pin p hp;obtain ⟨g1,_⟩:=I.pin p hp;refine ⟨h1,?_,h3⟩;rw [aH (aO (aN g1))];exact h2',fun b v q=>by
     by_cases y:b=s.heap.objs.size
     ·subst y;rw [ah] at q
      cases q;exact ⟨(by show 2<=aB; decide),[key,u],.cons (Lx hk) (.cons ru .nil),_,e2,rfl,0,rfl⟩
     ·rw [aH y] at q;exact (I2.hok b v q).stay (fun c v' _ z=>z) (fun c z=>by rw [aH (av z fr)]; exact z) fun c xs z=>by rw [aH (av z fr)]; exact z,I2.len⟩
  refine ⟨.ref s.heap.objs.size,_,I3,rfl,⟨_,_,rfl,fr,hkv,rfl⟩,⟨_,_,by rw [hl]; exact hit2⟩,fun b hb=>?_⟩;have e:b=it:=by simpa using hb
  subst e;rw [aH (fj nit)];exact f0
 done:=by
  intro X hP hw hK hc i pins s σ H E I hf st hg;subst hP hw hK;obtain ⟨ok,ov,st⟩:=st;obtain ⟨hd,hi⟩:=hg;obtain ⟨vs,r,da⟩:=As I hd;have hl:=r.length;obtain ⟨f0,f1,f2,f3,f4,f5⟩:=hf it (by simp);rw [hl] at st;exact wpAny_pyNext_items_end (I.ok.hd hc) st da (gs (by omega)) fun h' eb=>⟨rfl,I.turned (t':=s.toks) (fun b o hb e=>eb b o hb e) f0 f1 f3 f4 f5⟩
 self:=fun A i s Q E ⟨ok,ov,st⟩ h=>by
  have ty:s.TypeIs (.ref it) "dict_itemiterator":=⟨_,st,rfl⟩;refine vW ty F.slot_dict_itemiterator_iter (p0 F.slot_dict_itemiterator_iter ty rT ?_ (F.args_dict_itemiterator_iter_1 _));show aU _ _ (ret (.ref it)) _ _ s;exact aV ⟨_,rfl,"dict_itemiterator",_,ty,F.slot_dict_itemiterator_next.lookup,h⟩
end
section
variable {X:Cx} {o:cM} {to:TE} {apos cpos:Pos} {elts:List cM} {x1:Nat} {pos:Pos}
def Ly (X:Cx) (to:TE):TI:=fun σ H R=>to σ H fun x H1=>∃ d kvs,x=.ref d/\H1 d=some (.dK kvs)/\(∀ ob u,X.H₀ d≠some (.frz ob u))/\∀ od,R (Iti d od kvs) (upd H1 d (.frz od (.dK kvs)))
theorem zc (ho:PE X o to) (hbase:kC o "items" X.env (fc o X.env)=fc o X.env:=by rfl) (hline:(apos.endLine == cpos.line)=true:=by rfl):PI X (.Tuple elts x1 pos) (.Call (.Attribute o "items" apos) [] [] cpos) (Ly X to):=by
 intro pins s σ H R I h;refine DX hbase hline (thn (ho pins s σ H _ I h) fun v s1 ⟨x,H1,I1,r1,d,kvs,ex,hd,nf,q⟩=>?_);subst ex
 cases r1;obtain ⟨hz,n1,ws,k1,m1⟩:=(show eB X.prog X.w H1 s1.heap d (.dK kvs) from I1.hok d _ hd);obtain ⟨ob,_,_,g1,g2,_⟩:=id m1;refine ⟨"dict","dict.items",PySem.F.plainAttrs_dict,wU,PySem.F.type_dict_items,m1.typeIs,fun a e=>?_,nY rfl (Bb ?_)⟩
 ·cases e;exact ⟨ob,g1,g2.2.1⟩
 refine EW wU m1.typeIs PySem.F.entry_dict_items (PySem.F.args_dict_items_1 _) (meets_dict_items (eM X.prog X.w) d n1) ⟨⟨ws,m1⟩,?_⟩;have I2:Inv X pins σ H1 {s1 with heap:=s1.heap.push {cls:=.type "dict_items",data:=.fields #[.ref d]}}:=I1.kept (t':=s1.toks) fun b ob q=>aI _ q;obtain ⟨od,g3,I3⟩:=I2.freeze hd nf;obtain ⟨vs,r,da⟩:=As I3 (ah:upd H1 d (.frz od (.dK kvs)) d=_);refine wpAny_pyIter_items ⟨_,cj _ rfl,rfl,rfl⟩ da ?_;have lt:=aN g3;refine ⟨_,[_],_,_,_,rfl,I3.kept (t':=s1.toks) fun b ob q=>aI _ q,Au d _ od kvs (aO lt),⟨.none,.none,?_⟩,fun b hb=>?_,q od⟩
 ·rw [r.length];exact cj _ rfl
 ·have e:b=_:=aD.mp hb;subst e;exact I3.fpOk (aC _) (I3.hok.fresh (aC _))
end
theorem wV {d:aa} {od:Obj} {kvs:List (Key×V)} {g:TG} {tb:TS} {D:lL} {σ:St} {H:Hp} (Pv:Nat->St->Hp->Prop) (h0:Pv 0 σ H) (hl:∀ i σ H,i<=kvs.length->Pv i σ H->H d=some (.frz od (.dK kvs)))
  (hs:∀ i kv t σ H,kvs[i]?=some kv->Pv i σ H->H t=none->g (.ref t) σ (upd H t (.tup [kV kv.1,kv.2])) fun σ2 H2=>tb {D with nx:=Pv (i + 1),ct:=Pv (i + 1),bk:=D.nx} σ2 H2) (hd:∀ σ H,Pv kvs.length σ H->D.nx σ H) :
  ∃ W:Nat->Nat->St->Hp->Prop,(∃ m,W 0 m σ H)/\∀ i m σ H,W i m σ H ->
   ((Iti d od kvs).stop i H/\D.nx σ H)\/((Iti d od kvs).go i H/\∃ N:St->Hp->Prop,(∀ σ' H',N σ' H'->∃ m',m' < m/\W (i + 1) m' σ' H')/\∀ x H',(Iti d od kvs).yld i H x H'->g x σ H' fun σ2 H2=>tb {D with nx:=N,ct:=N,bk:=D.nx} σ2 H2):=by
 refine ⟨fun i m σ H=>m=kvs.length - i/\i<=kvs.length/\Pv i σ H,⟨kvs.length,by simp,bT _,h0⟩,?_⟩;rintro i m σ H ⟨rfl,hi,p⟩;have q:=hl i σ H hi p
 by_cases lt:i < kvs.length
 ·refine .inr ⟨⟨q,lt⟩,Pv (i + 1),fun σ' H' p'=>⟨kvs.length - (i + 1),by omega,rfl,lt,p'⟩,fun x H' y=>?_⟩;obtain ⟨t,kv,rfl,ht,hk,rfl⟩:=y;exact hs i kv t σ H hk p ht
 ·have e:i=kvs.length:=by omega
  subst e;exact .inl ⟨⟨q,aC _⟩,hd σ H p⟩
def JZ (X:Cx) (D:lL):lL where
 nx:=fun σ H=>∃ d od kvs,H d=some (.frz od (.dK kvs))/\(∀ ob u,X.H₀ d≠some (.frz ob u))/\D.nx σ (upd H d (.dK kvs))
 rt:=D.rt
 bk:=D.bk
 ct:=D.ct
theorem Bo {X:Cx} {st:cV} {t:TS} (h:PS X st t):PS X st (fun D σ H=>t (JZ X D) σ H):=by
 intro pins s σ H D I q;refine thn (h pins s σ H (JZ X D) I q) fun fl s1 z=>?_
 cases fl with
 | next =>
  obtain ⟨σ',H',I',d,od,kvs,e,nf,y⟩:=z;exact ⟨σ',_,I'.thaw e nf,y⟩
 | brk=>exact z
 | cont=>exact z
 | ret u=>exact z
end L2
namespace L2
open PySem PySem.Spec PyProof.Rows PySem.SeqAt
section
variable {P:aJ} {w:bJ} {H:Hp} {s:ak}
end
section
variable {X:Cx}
end
end L2
namespace L2
open PySem PySem.Spec PyProof.Rows
section
variable {prog:aJ} {w:bJ} {A:bS} {E:ae->ak->Prop} {s:ak}
end
section
variable {X:Cx}
end
structure mX (K:af) (C:aa):Prop where
 ga:aQ K (.ref C) "__getattribute__"=some (some (.builtin "BaseException.__getattribute__"))
 gh:aQ K (.ref C) "__getattr__"=some none
 cl:aQ K (.ref C) "__class__"=some (some (.builtin "object.__class__"))
 cn:A8 K (.builtin "object.__class__") "__get__"=some (some (.builtin "getset_descriptor.__get__"))
 ck:DH K (.builtin "object.__class__")=some true
 ob:vM K C (.type "object")=some true
 be:vM K C (.type "BaseException")=some true
theorem mX.cs {K:af} {C:aa} (c:mX K C):∃ cd,vX K C=some cd:=by
 obtain ⟨cd,a,_⟩:=Option.bind_eq_some_iff.mp c.ob;exact ⟨cd,a⟩
theorem Av:Manifest.canonical "BaseException.__getattribute__"="object.__getattribute__":=by decide +kernel
section
variable {prog:aJ} {w:bJ} {A:bS} {E:ae->ak->Prop} {s:ak} {K:af} {x C:aa} {ox:Obj}
theorem E3 {f:aa} {name:Str} {pl:Sem Bool} {Q:ae×List ae->ak->Prop} (X:K.In s.heap) (I:i9 s.heap x ox C none) (c:mX K C) (hf:aQ K (.ref C) name=some (some (.ref f))) (ht:Ey K (.ref f)=some (.type "function"))
  (h:Q (.ref f,[.ref x]) s):aU (aX prog w) A (j6 (.ref x) name pl) Q E s:=by
 unfold j6 specialOf;refine aq (aq (I.type.here ((gx X c.ga).here ?_)));dsimp only;rw [Av,if_neg (by decide)];refine aq (aq (I.type.here ((gx X c.gh).here ?_)));refine aq (aq (I.type.here ((gx X hf).here (aq ((PySem.W.looks_typeIn X ht).here ?_)))));rw [if_neg (by decide +kernel)];refine aq (z7 I.at_ ?_);have hd:=I.dict
 cases e:ox.dict with
 | none=>exact aq (Ap (aV h))
 | some dx=>rw [e] at hd; exact hd.elim
theorem CO {nameV:ae} {Q:Unit->ak->Prop} (X:K.In s.heap) (I:i9 s.heap x ox C none) (c:mX K C) (h:Q () s):aU (aX prog w) A (checkBuiltinCall "BaseException.__getattribute__" ⟨[.ref x,nameV],[]⟩) Q E s:=by
 obtain ⟨hh,g,d,t,os⟩:=s;have hk:builtinKind "BaseException.__getattribute__"=some .slot:=by decide +kernel
 have hsplit:splitId "BaseException.__getattribute__"=some ("BaseException","__getattribute__"):=by decide +kernel
 have ha:=F.args_bexc_ga (.ref x) nameV;have L0:=I.type (M:=aX prog w);have L1:=PySem.W.looks_mroIn (M:=aX prog w) X c.be;simp only [checkBuiltinCall,hk,hsplit];refine aq ?_;unfold isInstance;refine aq (L0.at (L1.at ?_))
 repeat (first | assumption | wp_step)
theorem CQ {Q:Option ae->ak->Prop} (X:K.In s.heap) (I:i9 s.heap x ox C none) (c:mX K C) (h:Q (some (.ref C)) {s with toks:=s.toks + 1}):aU (aX prog w) A (Ij (.ref x) "__class__") Q E s:=by
 have L0:=I.type (M:=aX prog w);have L1:=gx (M:=aX prog w) X c.ga;have L2':=gx (M:=aX prog w) X c.gh;have hf:Eb K C none "__class__"=some (.bind (.builtin "getset_descriptor.__get__") (.builtin "object.__class__")):=by
  obtain ⟨cd,hc⟩:=c.cs;unfold Eb;rw [hc,Ec,c.cl,Ec];simp [c.cn,c.ck]
 have L3:=PySem.W.looks_find (M:=aX prog w) X I hf;obtain ⟨hh,g,d,t,os⟩:=s;unfold Ij getAttrBy? getAttrBy;refine aq (wpAny_mkText (aq (wpAny_attempt (dO (aq (L0.at (aq (L1.at ?_))))))));dsimp only;rw [if_neg (show ¬ ((onTheHeap (Value.ref C) && Value.builtin "BaseException.__getattribute__" == Value.builtin "object.__getattribute__")=true) by rw [show (Value.builtin "BaseException.__getattribute__" == Value.builtin "object.__getattribute__")=false by decide +kernel,JS]; decide)];unfold getAttrByItsOwn hookBefore;rw [if_pos (show onTheHeap (Value.ref C)=true from rfl)];refine aq (L2'.at (aq (wpAny_attempt (dO ?_))));unfold callGetattribute boundAndCalled;rw [if_neg (show ¬ ((false && onTheHeap (Value.builtin "BaseException.__getattribute__"))=true) by decide),F.excAttr_ValueError.ga.bind];refine aq (aV (mK (codeAny_call_builtin F.excAttr_ValueError.ga.plain F.entry_bexc_ga (CO (s:=⟨hh,g,d,t + 1,os⟩) X I c ?_))));have fin:∀ (A':bS) (R:Ew->ak->Prop),R (.ok (.ret (.ref C))) ⟨hh,g,d,t + 1,os⟩->lO (aX prog w) A' (.call (.builtin "getset_descriptor.__get__") ⟨[.builtin "object.__class__",.ref x,.ref C],[]⟩) R ⟨hh,g,d,t + 1,os⟩:=fun A' R q=>PySem.W.class_get (s:=⟨hh,g,d,t + 1,os⟩) X I c.ob q;unfold gX.«object.__getattribute__» slotArgs;refine aq (aV ?_);refine aq (aV ?_);refine aq (L0.at (aq (L3.at ?_)));unfold Hz;refine aq (dO (mK (fin _ _ ?_)));refine aV ?_;exact PySem.W.handed_on rfl (aV h)
theorem zd (c:mX K C):PySem.W.KitX K (.ref x) (.ref C) (fun h=>i9 h x ox C none) where
 ty:=fun _ _ _ I=>I.type
 it:=fun _ _ X _=>by
  obtain ⟨cd,hc⟩:=c.cs;unfold vX at hc
  split at hc
  ·rename_i c' d' cd' sl' ho
   intro A' Q' E' s' k q;unfold isType loadHead;exact aq (z7 (k _ _ (X _ _ ho)) (aV q))
  ·cases hc
 ne:=fun h tp dd its n sl X htp=>by
  obtain ⟨cd,hc⟩:=c.cs;refine Bool.eq_false_iff.mpr fun q=>?_;have e:C=tp:=Value.ref.inj (beq_iff_eq.mp q);subst e;unfold vX at hc
  split at hc
  ·rename_i c' d' cd' sl' ho
   have z:=(X _ _ ho).symm.trans htp
   cases z
  ·cases hc
 ca:=fun X I k=>CQ X I c k
end
def XOk (a C:aa) (h:cu):Prop:=∃ ob,h.get? a=some ob/\ob.cls=.ref C/\ob.dict=none/\E4 ob=true
def XO (a C:aa):HO:=.ext (XOk a C)
theorem XOk.obj {P:aJ} {w:bJ} {H:Hp} {h:cu} {a C:aa} (x:XOk a C h):eB P w H h a (XO a C):=by
 obtain ⟨ob,e,r⟩:=x;refine ⟨⟨ob,e,r⟩,⟨ob,e⟩,fun h1 h2 y k=>?_⟩;obtain ⟨o,e1,r1⟩:=y;exact ⟨o,k o e1,r1⟩
theorem XOk.inst {h:cu} {a C:aa} (x:XOk a C h):∃ ox,i9 h a ox C none:=by
 obtain ⟨ob,e,c,d,n⟩:=x;exact ⟨ob,e,c,n,by rw [d]; trivial⟩
theorem Aw {P:aJ} {w:bJ} {H:Hp} {h:cu} {a C:aa} (ok:HOk P w H h) (e:H a=some (XO a C)):XOk a C h:=(ok a _ e).1
section
variable {X:Cx} {pins:List (aa×Obj)} {σ:St} {H:Hp} {s:ak}
theorem qR:jH X (.builtin "isinstance") (fun xs H Q=>∃ a C cv c b,xs=[.ref a,cv]/\RelV cv c/\(∀ u,RelV cv u->u=c)/\H a=some (XO a C)/\mX X.K C/\dP X.K (.ref C) c=some b/\Q (.bl b) H):=by
 intro pins s σ H xs us Q I r h;obtain ⟨a,C,cv,c,b,rfl,_,hu,e,cl,k,q⟩:=h;obtain ⟨u,w',rfl,rx,rt⟩:=vals2 r
 cases (show u=Value.ref a from rx)
 cases hu _ rt;obtain ⟨ox,J⟩:=(Aw I.hok e).inst;exact dW (zd cl) I.kIn J k (fun z=>nomatch z) fun tk=>⟨.bl b,H,I.tok _,rfl,q⟩
end
section
variable {P:aJ} {w:bJ} {H:Hp} {h h':cu} {a:aa} {o:HO} {fs ex:List aa}
end
section
variable {X:Cx} {pins:List (aa×Obj)} {σ:St} {H:Hp} {s:ak} {C:aa} {x:Str} {p pos:Pos} {e:cM} {es:List cM} {t:TA}
end
section
variable {X:Cx} {CX:CXT} {k:Nat} {f C:aa} {fd:bR} {ps:List Str} {sp:Sp} {E:XK} {m:Str} {pos apos:Pos} {o:cM} {ta:TE}
end
section
variable {X:Cx} {pins:List (aa×Obj)} {σ:St} {H:Hp} {s:ak}
theorem Inv.adopt {B:cu} {ea C:aa} {fl:ae} (I:Inv X pins σ H s) (f:FlD B X.stack ea (.ref C) fl s.heap) (cov:vT X pins H B s.heap):H ea=none/\Inv X pins σ (upd H ea (XO ea C)) s:=by
 obtain ⟨hB,hn,hl,oe,vs,T,oT,ts,he,hc,hdc,hd,_⟩:=f;have nf:ea∉frs X.stack:=fun z=>by
  obtain ⟨_,o,ho,q⟩:=hl.mem z;rw [he] at ho
  cases ho;exact q vs hd
 have nb:∀ o,B.get? ea≠some o:=fun o z=>by rw [hn] at z; cases z
 have hz:H ea=none:=by
  cases z:H ea with
  | none=>rfl
  | some u=>exact absurd (cov ea oe (.inl (by rw [z]; simp)) nf he) (nb oe)
 have ne:∀ {b:aa} {o:HO},H b=some o->b≠ea:=fun {b o} z=>av z hz;refine ⟨hz,I.ok,I.os,I.bare,⟨I.base.keep,I.base.slot,fun b o e n hx=>?_,I.base.there,fun b xs e=>?_,fun b o u e=>?_,fun b ps e=>?_⟩,I.loc,I.cell,?_,fun x c e=>?_,fun p hp=>?_,fun b u e=>?_,I.len⟩
 ·rw [aH]
  ·exact I.base.free b o e n hx
  ·rintro rfl;exact nb oe (cov _ oe (.inr (.inl ⟨hx,o,e⟩)) nf he)
 ·have z:=I.base.tups b xs e;rw [aH (ne z)];exact z
 ·have z:=I.base.frzs b o u e;rw [aH (ne z)];exact z
 ·obtain ⟨more,z⟩:=I.base.tbls b ps e;exact ⟨more,by rw [aH (ne z)]; exact z⟩
 ·rw [aH]
  ·exact I.free
  ·intro z;obtain ⟨m,⟨o,es,ep,ho,hdd,_⟩,_⟩:=I.loc;rw [z,he] at ho
   cases ho;rw [hd] at hdd
   cases hdd
 ·rw [aH]
  ·exact I.freeC x c e
  ·intro z;obtain ⟨v,o,ho,hdd⟩:=I.cell x c e;rw [z,he] at ho
   cases ho;rw [hd] at hdd
   cases hdd
 ·obtain ⟨e1,e2,e3,e4,e5⟩:=I.pin p hp;refine ⟨e1,?_,e3,e4,e5⟩;rw [aH]
  ·exact e2
  ·intro z;have e6:s.heap.get? ea=some p.2:=by rw [<- z]; exact e1
   rw [he] at e6
   cases e6;exact nb _ (cov ea _ (.inr (.inr ⟨p,hp,z⟩)) nf he)
 ·by_cases hb:b=ea
  ·subst hb;rw [ah] at e
   cases e;refine XOk.obj ⟨oe,he,hc,hdc,?_⟩;unfold E4;rw [hd]
  ·rw [aH hb] at e;exact (I.hok b u e).stay (fun _ _ _ q=>q) (fun c q=>by rw [aH (ne q)]; exact q) fun c xs q=>by rw [aH (ne q)]; exact q
theorem CT {M:HH} {A:bS} {E:ae->ak->Prop} {i:Nat} {x:Str} {v:V} {Q:Unit->ak->Prop} (I:Inv X pins σ H s) (hN:X.N.Nodup) (hi:X.N[i]?=some x) (hk:X.env.scope.names.lookup x=some .local) (hv:σ[i]?=some (some v))
  (h:∀ s',Inv X pins (σ.set i none) H s'->Q () s'):aU M A (unbindName X.env x) Q E s:=by
 obtain ⟨m,hn,hl⟩:=id I.loc;have hcls:(X.env.scope.kind == .class || (X.env.scope.kind == .module && X.env.locals != X.env.globals))=false:=by rw [I.ok.kind]; rfl
 have hkd:X.env.kindOf x=some .local:=hk;have hmx:(m x).isSome=true:=by
  obtain ⟨u,_,q⟩:=hl i x v hi hv (.inl hk)
  rcases q with ⟨_,e⟩ | ⟨k,_⟩
  ·rw [e]; rfl
  ·rw [hkd] at k
   rcases k with k | k <;> cases k
 unfold unbindName;refine aq (wpAny_point (aq ?_));unfold deleteName;simp only [hkd,hcls];rw [if_neg (by decide)];refine aq (wpAny_nsDel_keeps hn fun h' v' hn' hs=>?_);rw [hmx];simp only [Bool.not_true,rD,if_false];refine aV (wpAny_point (h _ ?_));obtain ⟨oL,_,_,hoL,_⟩:=id hn;have cne:=I.cne;have below:∀ b o,X.s₀.heap.get? b=some o->b≠X.env.locals:=fun b o e=>aO (bh (aN e) I.ok.above);refine ⟨I.ok,I.os,I.bare,⟨fun b o e n hb hx=>(hs.2 b (below b o e)).trans (I.base.keep b o e n hb hx),fun b o e n hb hx=>?_,I.base.free,fun b o e hx=>?_,I.base.tups,I.base.frzs,I.base.tbls⟩,⟨_,hn',fun j y v2 e1 e2 e3=>?_⟩,fun y c e=>?_,I.free,I.freeC,fun p hp=>?_,fun b ob e=>?_,by simpa using I.len⟩
 ·obtain ⟨sl,e1⟩:=I.base.slot b o e n hb hx;exact ⟨sl,(hs.2 b (below b o e)).trans e1⟩
 ·obtain ⟨o',e1⟩:=I.base.there b o e hx;exact ⟨o',(hs.2 b (below b o e)).trans e1⟩
 ·by_cases hj:j=i
  ·subst hj;have hlt:j < σ.length:=(aE.mp hv).1;rw [eZ hlt] at e2
   cases e2
  ·rw [iB (fj hj)] at e2;obtain ⟨u',r',q⟩:=hl j y v2 e1 e2 e3;refine ⟨u',r',?_⟩
   rcases q with ⟨k,e⟩ | ⟨k,c,e,z⟩
   ·refine .inl ⟨k,?_⟩;have hne:y≠x:=fun e=>hj (uz hN e1 (e ▸ hi));simp [hne,e]
   ·exact .inr ⟨k,c,e,z.sameBut hs (cne y c e)⟩
 ·obtain ⟨w',z⟩:=I.cell y c e;exact ⟨w',z.sameBut hs (cne y c e)⟩
 ·obtain ⟨e,n,ne,nf,d⟩:=I.pin p hp;exact ⟨(hs.2 p.1 ne).trans e,n,ne,nf,d⟩
 ·refine (I.hok b ob e).stay (fun c w' hc q=>(hs.2 c ?_).trans q) (fun _ q=>q) fun _ _ q=>q;rintro rfl
  rcases hc with rfl | hc
  ·rw [I.free] at e; cases e
  ·rw [I.free] at hc; cases hc
def E5 (i:Nat) (D:lL):lL:={nx:=fun σ H=>D.nx (σ.set i none) H,rt:=D.rt,bk:=fun σ H=>D.bk (σ.set i none) H,ct:=fun σ H=>D.ct (σ.set i none) H}
def thAs (K:af) (Ci:aa) (i:Nat) (t:TS) (th:TH):TH:=fun C D σ H =>
 (cN K (.ref C) (.ref Ci)=some true/\∀ ea,H ea=none->t (E5 i D) (σ.set i (some (.ref ea))) (upd H ea (XO ea C)))\/(cN K (.ref C) (.ref Ci)=some false/\th C D σ H)
theorem uc {M:HH} {A:bS} {E:ae->ak->Prop} {i:Nat} {x:Str} {pos:Pos} {Q:Unit->ak->Prop} (I:Inv X pins σ H s) (hN:X.N.Nodup) (hi:X.N[i]?=some x) (hk:X.env.scope.names.lookup x=some .local)
  (h:∀ s',Inv X pins (σ.set i none) H s'->Q () s'):aU M A (do bindName X.env x .none; rV X.env x pos) Q E s:=by
 have hlt:i < σ.length:=by
  rw [I.len];exact (aE.mp hi).1
 refine aq (wpAny_bindName (qH (v:=.non) I hN hi (.inl hk) rfl (fun s1 I1=>?_) (.inr hk)));unfold rV;refine wpAny_onRaise (CT (v:=.non) I1 hN hi hk (eZ hlt) fun s2 I2=>h s2 ?_);rw [List.set_set] at I2;exact I2
theorem E6 {x n:Str} {Ci:aa} {np pos:Pos} {b₀:cV} {suite:List cV} {rest:List kD} {t:TS} {th:TH} (i:Nat) (hg:Gl X x) (hm:X.mg x=some (.ref Ci)) (hN:X.N.Nodup) (hi:X.N[i]?=some n) (hk:X.env.scope.names.lookup n=some .local)
  (hsu:∀ ea,PSs (X.hdl ea) (b₀ :: suite) t) (hr:PHs X rest th) (hd:(x == ("__debug__":Str))=false:=by decide):PHs X (.ExceptHandler (some (.Name x np)) (some n) (b₀ :: suite) pos :: rest) (thAs X.K Ci i t th):=by
 intro pins s σ H D ea C B I fl cov h;refine wpAny_handleBy_cons (codeAny_handlers_test ?_) (by intro q; cases q);refine pC (X:=X.hdl ea) (I.hdl ea) hg hm ?_ hd;obtain ⟨ob,hob,hc⟩:=fl.there;have LT:PySem.W.Looks (aX X.prog X.w) s.heap (typeOf (.ref ea)) (.ref C):=by
  rw [<- hc];exact (PySem.W.Looks.ld hob).andThen .now
 rcases h with ⟨hx,q⟩ | ⟨hx,q⟩
 ·refine (Ed I.kIn LT hx).here ?_;refine codeAny_handlers_suite_as (oP fl fun h6 fl6 sm6=>?_);have I6:=I.landed fl6.1 cov sm6;obtain ⟨hz,J⟩:=I6.adopt fl6 (vT.land I fl6.1 cov);refine qH (X:=X.hdl ea) (v:=.ref ea) (J.hdl ea) hN hi (.inl hk) rfl (fun s2 I2=>?_) (.inr hk);refine d7 (hsu ea pins _ _ _ (E5 i D) I2 (q ea hz)) (fun f s3 z=>?_) (fun _ _ z=>cH z);show aU _ X.A (do bindName X.env n .none; rV X.env n pos) (fun _ s₃=>SP X pins D f s₃) X.xe s3
  cases f with
  | next=>obtain ⟨σ',H',I3,q3⟩:=z; exact uc (I3.unhdl I.ok) hN hi hk fun s4 I4=>⟨_,_,I4,q3⟩
  | brk=>obtain ⟨σ',H',I3,q3⟩:=z; exact uc (I3.unhdl I.ok) hN hi hk fun s4 I4=>⟨_,_,I4,q3⟩
  | cont=>obtain ⟨σ',H',I3,q3⟩:=z; exact uc (I3.unhdl I.ok) hN hi hk fun s4 I4=>⟨_,_,I4,q3⟩
  | ret u=>obtain ⟨v,σ',H',I3,r3,q3⟩:=z; exact uc (I3.unhdl I.ok) hN hi hk fun s4 I4=>⟨v,_,_,I4,r3,q3⟩
 ·refine (Ed I.kIn LT hx).here ?_;exact hr pins s σ H D ea C B I fl cov q
end
section
variable {X:Cx} {pins:List (aa×Obj)} {σ:St} {H:Hp} {s s2:ak} {h':cu}
theorem Inv.turned2 {t':Nat} {e it:aa} (I:Inv X pins σ H s) (k:∀ b o,b≠e->b≠it->s.heap.get? b=some o->h'.get? b=some o) (f:xq X pins H e) (g:xq X pins H it):Inv X pins σ H {s with heap:=h',toks:=t'}:=by
 have ne1:∀ b u,H b=some u->b≠e:=fun b u q z=>by rw [z,f.1] at q; cases q
 have ne2:∀ b u,H b=some u->b≠it:=fun b u q z=>by rw [z,g.1] at q; cases q
 obtain ⟨f0,f1,f2,f3,f4,f5⟩:=f;obtain ⟨g0,g1,g2,g3,g4,g5⟩:=g;refine I.step (g':=s.gens) (d':=s.drawn) (ch:=[e,it]) (fun b hb=>?_) (fun b o _ _ hc q _=>k b o (fun z=>hc (by simp [z])) (fun z=>hc (by simp [z])) q) (fun b o _ _ hc q _=>⟨o.slots,k b o (fun z=>hc (by simp [z])) (fun z=>hc (by simp [z])) q⟩) (fun _ _ _ _ n=>n)
  (fun b o hc q=>⟨o,k b o (fun z=>hc (by simp [z])) (fun z=>hc (by simp [z])) q⟩) (fun _ _ q=>q) (fun _ _ _ q=>q) (fun b ps q=>⟨#[],by rw [q]; simp⟩) (fun m hm=>?_) (fun b u q=>?_) I.bare
 ·rcases au.mp hb with z | z
  ·subst z;exact ⟨f3,f1,f4,f5⟩
  ·have z:=aD.mp z;subst z;exact ⟨g3,g1,g4,g5⟩
 ·obtain ⟨o,es,ep,ho,r⟩:=hm;exact ⟨o,es,ep,k _ o (fj f1) (fj g1) ho,r⟩
 ·refine (I.hok b u q).stay (fun c v hc q'=>k c v ?_ ?_ q') (fun _ q=>q) fun _ _ q=>q
  ·rcases hc with z | z
   ·rw [z]; exact ne1 b u q
   ·exact ne1 c _ z
  ·rcases hc with z | z
   ·rw [z]; exact ne2 b u q
   ·exact ne2 c _ z
theorem Inv.track {o:HO} (I:Inv X pins σ H s) (I2:Inv X pins σ H s2) (ok:eB X.prog X.w (upd H s.heap.objs.size o) s2.heap s.heap.objs.size o):Inv X pins σ (upd H s.heap.objs.size o) s2:=by
 have fr:H s.heap.objs.size=none:=I.hok.fresh (aC _);exact ⟨I2.ok,I2.os,I2.bare,⟨I2.base.keep,I2.base.slot,fun b ob q n hx=>by
   have z:=I2.base.free b ob q n hx
   by_cases y:b=s.heap.objs.size
   ·exfalso;have lt:b < s.heap.objs.size:=bh (aN q) I.sz;rw [y] at lt;exact absurd lt (gJ _)
   ·rw [aH y];exact z,I2.base.there,fun b xs q=>by
   rw [aH (av (I2.base.tups b xs q) fr)];exact I2.base.tups b xs q,fun b ob v q=>by
   rw [aH (av (I2.base.frzs b ob v q) fr)];exact I2.base.frzs b ob v q,fun b ps q=>by
   obtain ⟨m,z⟩:=I2.base.tbls b ps q;exact ⟨m,by rw [aH (av z fr)]; exact z⟩⟩,I2.loc,I2.cell,by
   rw [aH (aO I.lt)];exact I2.free,fun x c q=>by
   obtain ⟨v,y⟩:=I.cell x c q;rw [aH (aO y.lt)];exact I2.freeC x c q,fun p hp=>by
   obtain ⟨h1,h2',h3⟩:=I2.pin p hp;obtain ⟨g1,_⟩:=I.pin p hp;refine ⟨h1,?_,h3⟩;rw [aH (aO (aN g1))];exact h2',fun b v q=>by
   by_cases y:b=s.heap.objs.size
   ·subst y;rw [ah] at q
    cases q;exact ok
   ·rw [aH y] at q;exact (I2.hok b v q).stay (fun c v' _ z=>z) (fun c z=>by rw [aH (av z fr)]; exact z) fun c xs z=>by rw [aH (av z fr)]; exact z,I2.len⟩
end
def Ite (K:af) (a:aa):It:=
 ⟨fun i H=>∃ xs x,SqL K H a xs/\xs[i]?=some x,fun i H x H'=>∃ t y,x=.ref t/\H t=none/\(∀ xs,SqL K H a xs->xs[i]?=some y)/\H'=upd H t (.tup [.int i,y]),fun i H=>∃ xs,SqL K H a xs/\xs.length<=i⟩
section
variable {P:aJ} {w:bJ} {K:af}
theorem CV {elts:List cM} {x1} {pos:Pos} (a e it:aa) (hne:e≠it):Cg P w K (.Tuple elts x1 pos) (Ite K a) [e,it] e (fun i h=>∃ old,IsEnum h e it (i:Int) old/\h.IsListIter it a i) where
 mem:=by simp
 obj:=fun i h st b hb=>by
  obtain ⟨old,h1,h2⟩:=st
  rcases au.mp hb with z | z
  ·subst z;exact ⟨_,h1,fun v z=>by cases z⟩
  ·have z:=aD.mp z;subst z;obtain ⟨o,e,c,d⟩:=h2;exact ⟨o,e,fun v z=>by rw [d] at z; cases z⟩
 keep:=fun i h h' ⟨old,h1,h2⟩ k=>⟨old,k e (by simp) _ h1,h2.at fun o q=>k it (by simp) o q⟩
 item:=by
  intro X hP hw hK hc i pins s σ H E I hf st hg;subst hP hw hK;obtain ⟨old,st1,st2⟩:=st;obtain ⟨xs,x,hq,hx⟩:=hg;obtain ⟨its,rv,p,hz⟩:=I.list hq;obtain ⟨u,hu,ru⟩:=rv.get hx;have F1:=hf e (by simp);have F2:=hf it (by simp);obtain ⟨f0,f1,f2,f3,f4,f5⟩:=id F1;refine wpAny_pyNext_enum_item st1 st2 p.isList (x:=u) (by simpa using hu) hne fun h' a1 a2 a3 a4 a5=>?_;have I1:Inv X pins σ H {s with heap:=h',toks:=s.toks + 1}:=I.turned2 (t':=s.toks + 1) (fun b o h1 h2 q=>a5 b o h1 h2 q) F1 F2;refine ⟨_,rfl,wpAny_letOwnedTupleGo_enum a1 fun h2 e2 sb=>?_⟩;have I2:Inv X pins σ H {s with heap:=h2,toks:=s.toks + 1}:=I1.turned (t':=s.toks + 1) (fun b o hb q=>sb.extBut b o hb q) f0 f1 f3 f4 f5;have fr:H s.heap.objs.size=none:=I.hok.fresh (aC _);have n1:s.heap.objs.size≠e:=(aO (aN st1)).symm;have n2:s.heap.objs.size≠it:=by
   obtain ⟨o,q,_⟩:=st2;exact (aO (aN q)).symm
  have t2:=sb.extBut _ _ n1 a3;have I3:=I.track I2 (o:=.tup [.int i,x]) ⟨(by show 2<=aB; decide),[.int i s.toks,u],.cons ⟨_,rfl⟩ (.cons ru .nil),_,t2,rfl,0,rfl⟩;refine ⟨.ref s.heap.objs.size,_,I3,rfl,⟨_,x,rfl,fr,fun ys hy=>by rw [I.list_inj hy hq]; exact hx,rfl⟩,⟨u,e2,a2.extBut sb.extBut (fj hne)⟩,fun b hb=>?_⟩
  rcases au.mp hb with z | z
  ·rw [z,aH (fj n1)];exact f0
  ·rw [aD.mp z,aH (fj n2)];exact F2.1
 done:=by
  intro X hP hw hK hc i pins s σ H E I hf st hg;subst hP hw hK;obtain ⟨old,st1,st2⟩:=st;obtain ⟨xs,hq,hx⟩:=hg;obtain ⟨its,rv,p,hz⟩:=I.list hq;obtain ⟨f0,f1,f2,f3,f4,f5⟩:=hf it (by simp);have hl:=rv.length;exact wpAny_pyNext_enum_end (I.ok.hd hc) st1 st2 p.isList (by simp; omega) fun h' eb=>⟨rfl,I.turned (t':=s.toks) (fun b o hb e=>eb b o hb e) f0 f1 f3 f4 f5⟩
 self:=fun A i s Q E ⟨old,st,_⟩ h=>by
  have ty:s.TypeIs (.ref e) "enumerate":=⟨_,st,rfl⟩;refine vW ty F.slot_enumerate_iter (p0 F.slot_enumerate_iter ty F.entry_enumerate_iter ?_ (F.args_enumerate_iter_1 _));show aU _ _ (ret (.ref e)) _ _ s;exact aV ⟨_,rfl,"enumerate",_,ty,F.slot_enumerate_next.lookup,h⟩
end
section
variable {X:Cx} {elts:List cM} {x1:Nat} {tpos pos p:Pos}
def J0 (K:af) (tl:TA):TI:=fun σ H R=>tl σ H fun vs H1=>∃ a,vs=[.ref a]/\(∃ xs,SqL K H1 a xs)/\R (Ite K a) H1
theorem Iz {a:cM} {ta:TA} (hg:Gl X "enumerate") (hm:X.mg "enumerate"=none) (ha:PA X [a] ta) (hs:cw [a] X.env=[(false,fc a X.env)]:=by rfl):PI X (.Tuple elts x1 tpos) (.Call (.Name "enumerate" p) [a] [] pos) (J0 X.K ta):=by
 intro pins s σ H R I h;refine Call_ (rE I hg hm boot_enumerate (jz (thn (ha pos pins s σ H _ I h) fun us s1 ⟨vs,H1,I1,r1,q1⟩=>?_) hs rfl));obtain ⟨l,e,⟨xs,hq⟩,q⟩:=q1;subst e;obtain ⟨u,rfl,ru⟩:=vals1 r1
 cases ru;obtain ⟨its,rv,pl,hz⟩:=I1.list hq;refine call_enumerate_list pl.isList fun h' e1 e2 e3 e4=>?_;have I2:Inv X pins σ H1 {s1 with heap:=h'}:=I1.kept (t':=s1.toks) e4;have ty:({s1 with heap:=h'}:ak).TypeIs (.ref (s1.heap.objs.size + 1)) "enumerate":=⟨_,e1,rfl⟩;refine vW ty F.slot_enumerate_iter (p0 F.slot_enumerate_iter ty F.entry_enumerate_iter ?_ (F.args_enumerate_iter_1 _));show aU _ _ (ret (.ref (s1.heap.objs.size + 1))) _ _ _;refine aV ⟨_,rfl,"enumerate",_,ty,F.slot_enumerate_next.lookup,?_⟩;refine ⟨_,[_,_],_,_,H1,rfl,I2,CV l _ s1.heap.objs.size (Nat.succ_ne_self _),⟨.none,e1,e2⟩,fun b hb=>?_,q⟩
 rcases au.mp hb with z | z
 ·rw [z];exact I1.fpOk (fq _) (I1.hok.fresh (fq _))
 ·rw [aD.mp z];exact I1.fpOk (aC _) (I1.hok.fresh (aC _))
theorem CW {K:af} {a:aa} {xs:List V} {n:Nat} {g:TG} {tc:TT} {te:TE} {σ:St} {H:Hp} {Q:VK} (Pv:Nat->List V->Hp->Prop) (h0:Pv 0 [] H) (hl:∀ i ys H,i<=xs.length->Pv i ys H->SqL K H a xs/\ys.length < aB)
  (hs:∀ i x t ys H,xs[i]?=some x->Pv i ys H->H t=none->g (.ref t) (cB n none++σ) (upd H t (.tup [.int i,x])) fun σ2 H2=>σ2.drop n=σ/\tc σ2 H2 fun b H3=>if b=true then te σ2 H3 fun y H4=>Pv (i + 1) (ys++[y]) H4 else Pv (i + 1) ys H3)
  (hd:∀ ys H,Pv xs.length ys H->∀ p,H p=none->Q (.ref p) (upd H p (.lst ys))) :
  ∃ W:Nat->Nat->List V->Hp->Prop,(∃ m,W 0 m [] H)/\∀ i m ys H,W i m ys H->ys.length < aB/\(((Ite K a).stop i H/\∀ p,H p=none->Q (.ref p) (upd H p (.lst ys))) \/
   ((Ite K a).go i H/\∃ N:List V->Hp->Prop,(∀ ys' H',N ys' H'->∃ m',m' < m/\W (i + 1) m' ys' H')/\∀ x H',(Ite K a).yld i H x H'->g x (cB n none++σ) H' fun σ2 H2=>σ2.drop n=σ/\tc σ2 H2 fun b H3 =>
    if b=true then te σ2 H3 fun y H4=>N (ys++[y]) H4 else N ys H3)):=by
 refine ⟨fun i m ys H=>m=xs.length - i/\i<=xs.length/\Pv i ys H,⟨xs.length,by simp,bT _,h0⟩,?_⟩;rintro i m ys H ⟨rfl,hi,p⟩;obtain ⟨q,z⟩:=hl i ys H hi p;refine ⟨z,?_⟩
 by_cases hlt:i < xs.length
 ·refine .inr ⟨⟨xs,xs[i],q,by simp [hlt]⟩,Pv (i + 1),fun ys' H' p'=>⟨xs.length - (i + 1),by omega,rfl,hlt,p'⟩,fun x H' y=>?_⟩;obtain ⟨t,v,rfl,ht,hv,rfl⟩:=y;exact hs i v t ys H (hv xs q) p ht
 ·have e:i=xs.length:=by omega
  subst e;exact .inl ⟨⟨xs,q,aC _⟩,hd ys H p⟩
end
section
variable {prog:aJ} {w:bJ} {A:bS} {E:ae->ak->Prop} {s:ak}
theorem vY {a:aa} {vs:List ae} {n:Nat} {b:Bool} {P:Fin->ak->Prop} (ho:s.heap.get? a=some (dA "list" vs.toArray n)) (h2:vs.length < 2)
  (h:P (.done (.ret .none)) {s with heap:=sortedHeap s.heap a vs vs.toArray}) :
  aU (aX prog w) A (gX.«list.sort» ⟨[.ref a],[(kM "reverse",.bool b)]⟩) P E s:=by
 rw [list_sort_rev];have ha:a < s.heap.objs.size:=aN ho;refine aq (listItems_at ho rfl ?_);refine aq (ue ho rfl ?_);obtain ⟨e1,ho1⟩:∃ e1,(s.heap.update a (cX fun _=>#[])).get? a=some (dA "list" #[] e1):=⟨_,get?_update_seq ho (fun _=>#[])⟩;refine aq (yF ho1 rfl ?_);refine aq (wpAny_newTuple ?_);refine aq (oV ?_);refine dO ?_;have ho6:(((s.heap.update a (cX fun _=>#[])).push (dA "tuple" vs.toArray 0)).push (dA "list" #[] 0)).get? a=some (dA "list" #[] e1):=by
  rw [fu _ _ _ (by rw [uX,gk]; exact aO (ij ha)),fu _ _ _ (by rw [gk]; exact aO ha)];exact ho1
 have one:((if b=true then (if b=true then (vs.toArray.zip vs.toArray).reverse else vs.toArray.zip vs.toArray).map (·.2) |>.reverse else (if b=true then (vs.toArray.zip vs.toArray).reverse else vs.toArray.zip vs.toArray).map (·.2)):Array ae)=vs.toArray:=by
  match vs,h2 with
  | [],_=>cases b <;> simp
  | [v],_=>cases b <;> simp
 show aU (aX prog w) A _ P E {s with heap:=((s.heap.update a (cX fun _=>#[])).push (dA "tuple" vs.toArray 0)).push (dA "list" #[] 0)};dsimp only;have step:∀ t:Sem Fin,aU (aX prog w) A t P E {s with heap:=((s.heap.update a (cX fun _=>#[])).push (dA "tuple" vs.toArray 0)).push (dA "list" #[] 0)} ->
   aU (aX prog w) A (if b=true then (do let _ <- HL "list.sort.reverse"; t) else t) P E {s with heap:=((s.heap.update a (cX fun _=>#[])).push (dA "tuple" vs.toArray 0)).push (dA "list" #[] 0)}:=by
  intro t ht
  split
  ·exact aq (Ap ht)
  ·exact ht
 refine step _ ?_;have h2':vs.toArray.size < 2:=by simpa using h2
 rw [if_pos h2',if_pos h2'];refine aq (aV ?_);rw [StateT.run_pure];refine aq (aV ?_);dsimp only;refine aq (yF ho6 rfl ?_);have one':(if b=true then (Array.map (fun x=>x.snd) (arrOf (Nh general' (if b=true then (vs.toArray.zip vs.toArray).reverse else vs.toArray.zip vs.toArray) #[] 7 none))).reverse else Array.map (fun x=>x.snd) (arrOf (Nh general' (if b=true then (vs.toArray.zip vs.toArray).reverse else vs.toArray.zip vs.toArray) #[] 7 none)))=vs.toArray:=one;rw [one'];refine aq (ue ho6 rfl ?_ (hsz2:=by rw [kH]; omega));simp only [bne_self_eq_false,rD,if_false];exact aV h
theorem Ax {l:aa} {vs:List ae} {b:Bool} {Q:ae->ak->Prop} (hl:s.heap.IsList l vs.toArray) (h2:vs.length < 2)
  (h:Q (.ref (s.heap.objs.size + 1)) {s with heap:=Ee s.heap vs vs.toArray}) :
  aU (aX prog w) A (vJ (.builtin "sorted") [.ref l] [(kM "reverse",.bool b)]) Q E s:=by
 refine E7 IA E8 E9 (args_sorted_rev _ _) ?_;unfold gX.«sorted»;refine aq (m:=Lz "sorted" 1 1 _) (aV ?_);refine aq (collect_list hl ?_);refine aq (oV ?_);have hsz:((s.heap.push (dA "list" #[] 0)).update s.heap.objs.size (cX (·++vs.toArray))).objs.size=s.heap.objs.size + 1:=by
  rw [gk,uX]
 have hoL:(((s.heap.push (dA "list" #[] 0)).update s.heap.objs.size (cX (·++vs.toArray))).push (dA "list" vs.toArray 0)).get? (s.heap.objs.size + 1)=some (dA "list" vs.toArray 0):=by
  rw [<- hsz]; exact cj _ rfl
 show aU _ _ _ _ _ {s with heap:=((s.heap.push (dA "list" #[] 0)).update s.heap.objs.size (cX (·++vs.toArray))).push (dA "list" vs.toArray 0)};rw [hsz];refine aq (dO (J1 Ay ⟨_,hoL,rfl⟩ ze (vY hoL h2 ⟨_,rfl,?_⟩) (LA _ _)));exact aV ⟨_,rfl,h⟩
end
section
variable {X:Cx} {e:cM} {t:TA} {p pos kp bp:Pos} {j:Nat}
end
section
variable {X:Cx}
def tTryE (T:aa->St->Hp->Prop) (tb:TS) (th:TH) (te:TS):TS:=fun D σ H=>tb {D with nx:=te D} σ H/\∀ C σ' H',σ'.length=σ.length->T C σ' H'->th C D σ' H'
theorem IB {body orelse:List cV} {h₀:kD} {hs:List kD} {pos:Pos} {tb te:TS} {th:TH} (T:aa->St->Hp->Prop) (hb:∀ pins,PSs (X.tr pins T) body tb) (hh:PHs X (h₀ :: hs) th) (ho:PSs X orelse te)
  (hst:X.stack=X.env :: X.outer:=by rfl) (hfr:X.env.frame=some X.env.locals:=by rfl):PS X (.Try body (h₀ :: hs) orelse [] pos) (tTryE T tb th te):=by
 intro pins s σ H D I h;obtain ⟨h1,h2⟩:=h;refine wpAny_Try_except (d7 (hb pins [] s σ H {D with nx:=te D} (I.tr T) h1) (fun f s1 q=>?_) (fun e s1 q=>?_))
 ·cases f with
  | next=>obtain ⟨σ',H',J,q⟩:=q; exact ho pins s1 σ' H' D J.untr q
  | ret v=>obtain ⟨v,σ',H',J,r,q⟩:=q; exact ⟨v,σ',H',J.untr,r,q⟩
  | brk=>obtain ⟨σ',H',J,q⟩:=q; exact ⟨σ',H',J.untr,q⟩
  | cont=>obtain ⟨σ',H',J,q⟩:=q; exact ⟨σ',H',J.untr,q⟩
 ·obtain ⟨ea,C,B,σ',H',rfl,J,fl,cov,t⟩:=q;have fl1:FlD B (X.env :: X.outer) ea (.ref C) .none s1.heap:=by
   rw [<- hst];exact fl
  refine xK (by rw [J.ok.frames,hst]) hfr fl1 fun h4 x4 s4=>?_;refine oP x4 fun h5 fl5 s5=>?_;have J5:=J.landed fl5.1 cov (s4.trans s5);rw [<- hst] at fl5;exact hh pins _ σ' H' D ea C B J5 fl5 (vT.land J fl5.1 cov) (h2 C σ' H' (by rw [J.len,I.len]) t)
end
abbrev zf (A:bS):bS:={A with handled:=none}
structure oW (P:aJ) (w:bJ) (K:af) (mg:Str->Option ae) (base:cu) (CX:CXT) (k:Nat) (f:aa) (fd:bR) (ps:List Str) (sp:Sp):Prop where
 len:∀ vs H Q E,sp vs H Q E->vs.length=ps.length
 run:∀ (A:bS) (outer:List Env) (s:ak) (H:Hp) (args:Args) (us:List ae) (vs:List V) (Q:VK) (E:XK),c5 k (zf A)->xt P w K mg base A outer s H->sV s fd args (ps.zip us)->cU vs us->sp vs H Q E ->
  lO (aX P w) A (.call (.ref f) args) (CR CX outer P w H s Q E) s
theorem LB {CX:CXT} {P:aJ} {w:bJ} {K:af} {mg:Str->Option ae} {base:cu} {k:Nat} {f:aa} {name qual:Str} {params:Arguments} {body:List cV} {scope:kE} {dV kV doc pm cdv ct oc:ae} {an od:Option aa}
  {osl:Array (Option ae)} {N ps:List Str} {sp:Sp} (lk:K.lookup f=some ⟨oc,od,.func (eT name qual params body scope dV kV doc pm an cdv ct),osl⟩) (hcd:jb K cdv qual=true) (S:bK N ps scope)
  (len:∀ vs H Q E,sp vs H Q E->vs.length=ps.length)
  (hbody:∀ (A:bS) (outer:List Env) (s:ak) (H:Hp) (vs:List V) (Q:VK) (E:XK),sp vs H Q E ->
   ∃ t,PSs {rO CX P w K mg base N qual scope f cdv A outer s H E with calm:=false} body t/\t {nx:=fun _ H'=>Q .non H',rt:=Q} (start N vs) H) :
  oW P w K mg base CX (k + 1) f (eT name qual params body scope dV kV doc pm an cdv ct) ps sp:=by
 refine ⟨len,fun A outer s H args us vs Q E hr e0 hb r hsp=>?_⟩;have hl:=len _ _ _ _ hsp;have KX:K.In s.heap:=e0.mod.kin.keeps fun b o e=>(e0.bs b o e).1;have lim:s.heap.NoLimit:=e0.mod.nolimit.keeps fun b o e=>(e0.bs b o e).1;have hkind:∀ y∈ps.zip us,scope.names.lookup y.1=some .local\/(scope.names.lookup y.1=some .cell/\((DK (s.heap.objs.size + 1) scope.names []).lookup y.1).isSome=true):=fun ⟨n,v⟩ hy=>by
  rcases S.par n (oG hy).1 with q | q
  ·exact .inl q
  ·exact .inr ⟨q,mO _ _ _ (.inl q)⟩
 refine Hw (A:=A) hr.depth (KX _ _ lk) rfl S.co S.gen rfl (Ae KX hcd) (hb _ _ _ _ ?_);refine Af S.kind hkind fun env he s1 x=>?_;subst he;refine ⟨lim.keeps x.toInCall.keep,codeAny_func ?_⟩;obtain ⟨t,ht,hq⟩:=hbody A outer s H vs Q E hsp;have e1:xt P w K mg base (zf A) outer s H:=⟨e0.frames,e0.mod,e0.bs,e0.bsz,e0.funs,e0.frf,e0.hok,e0.bare⟩;have I0:Inv (rO CX P w K mg base N qual scope f cdv (zf A) outer s H E) [] (start N vs) H s1:=wG S rfl e1 hl r x;have I:Inv {rO CX P w K mg base N qual scope f cdv A outer s H E with calm:=false} [] (start N vs) H s1:=
  ⟨⟨I0.ok.mod,I0.ok.kind,I0.ok.glob,I0.ok.blt,I0.ok.above,I0.ok.inj,I0.ok.has,I0.ok.cab,fun z=>tZ z,I0.ok.frames,I0.ok.stk,I0.ok.exf,I0.ok.bs,I0.ok.bsz,I0.ok.noex,I0.ok.exfs,I0.ok.funs,I0.ok.frf⟩,I0.os,I0.bare,I0.base,I0.loc,I0.cell,I0.free,I0.freeC,I0.pin,I0.hok,I0.len⟩
 refine d7 (ht [] s1 (start N vs) H _ I hq) (fun fl s' hs=>?_) fun e s' hs=>hs;have fin:∀ {σ':St} {H':Hp} {v:V} {u:ae},Inv {rO CX P w K mg base N qual scope f cdv A outer s H E with calm:=false} [] σ' H' s'->RelV v u->Q v H'->CE outer P w H s Q u s':=
  fun {σ' H' v u} J rv q=>⟨v,H',J.os,J.bare,J.base,J.hok,rv,q⟩
 cases fl with
 | ret u =>
  obtain ⟨v,σ',H',J,rv,q⟩:=hs;exact fin J rv q
 | next =>
  obtain ⟨σ',H',J,q⟩:=hs;exact fin (v:=V.non) (u:=Value.none) J rfl q
 | brk =>
  obtain ⟨_,_,_,q⟩:=hs;exact cH q
 | cont =>
  obtain ⟨_,_,_,q⟩:=hs;exact cH q
theorem Fun.okH {P:aJ} {w:bJ} {K:af} {mg:Str->Option ae} {base:cu} {x qual:Str} {st:cV} {f:aa} {fd:bR} {N ps:List Str} {k:Nat} {sp:Sp} (F:Fun K x qual st f fd) (S:bK N ps (aL st)) (len:∀ vs H Q E,sp vs H Q E->vs.length=ps.length)
  (hbody:∀ (cdv:ae) (A:bS) (outer:List Env) (s:ak) (H:Hp) (vs:List V) (Q:VK) (E:XK),sp vs H Q E ->
   ∃ t,PSs {rO CX0 P w K mg base N qual (aL st) f cdv A outer s H E with calm:=false} (iO st) t/\t {nx:=fun _ H'=>Q .non H',rt:=Q} (start N vs) H):oW P w K mg base CX0 (k + 1) f fd ps sp:=by
 obtain ⟨oc,od,kV,doc,pm,an,cdv,ct,osl,rfl,lk,hcd⟩:=F.ex;exact LB lk hcd S len fun A outer s H vs Q E hsp=>hbody cdv A outer s H vs Q E hsp
theorem IC {X:Cx} {CX:CXT} {k:Nat} {f:aa} {fd:bR} {ps:List Str} {sp:Sp} {E:XK} {pins:List (aa×Obj)} {σ:St} {H:Hp} {s:ak} {Q:VK} {us:List ae} {vs:List V} (F:oW X.prog X.w X.K X.mg X.base CX k f fd ps sp) (hr:c5 k (zf X.A)) (hb:Binds X.K fd ps []) (hx:lB CX X E)
  (I:Inv X pins σ H s) (r:cU vs us) (h:sp vs H Q E):aU (aX X.prog X.w) X.A (vJ (.ref f) us) (EP X pins σ Q) X.xe s:=by
 have hl:(us++[]).length=ps.length:=by rw [cE,<- r.length]; exact F.len _ _ _ _ h
 have hb1:=hb s us I.kIn hl;rw [cE] at hb1;refine mK (jS (F.run X.A X.stack s H ⟨us,[]⟩ us vs Q E hr I.env0 hb1 r h) fun r s' hq=>?_)
 cases r with
 | error e=>exact hx pins σ H s e s' I hq
 | ok fl =>
  cases fl with
  | ret u=>exact I.after hq
  | next=>exact cH hq
  | brk=>exact cH hq
  | cont=>exact cH hq
section
variable {X:Cx} {CX:CXT} {k:Nat} {ι:Type} {fm C:ι->aa} {fd:ι->bR} {ps:List Str} {sp:ι->Sp} {E:XK} {m:Str} {pos apos:Pos} {o:cM} {ta:TE}
def ID (C:ι->aa) (sp:ι->Sp) (E:XK) (ta:TE):TE:=fun σ H Q=>ta σ H fun x H1=>∃ a i,x=.ref a/\H1 a=some (XO a (C i))/\sp i [.ref a] H1 Q E
theorem CZ {pl:Sem Bool} (he:PE X o ta) (c:∀ i,mX X.K (C i)) (hm:∀ i,vK X.K (C i) m (fm i)) (F:∀ i,oW X.prog X.w X.K X.mg X.base CX k (fm i) (fd i) ps (sp i)) (hr:c5 k (zf X.A)) (hb:∀ i,Binds X.K (fd i) ps []) (hx:lB CX X E)
  (ht:fc (.Call (.Attribute o m apos) [] [] pos) X.env=(do
   let ov <- fc o X.env
   sQ apos.atName
   let (f,first) <- om [ov] (j6 ov m pl)
   vL pos f first (ia pos (cw [] X.env)) (kJ pos (hZ [] X.env))):=by rfl) :
  PE X (.Call (.Attribute o m apos) [] [] pos) (ID C sp E ta):=by
 intro pins s σ H Q I h;refine hJ (pl:=pl) (thn (he pins s σ H _ I h) fun u s1 ⟨x,H1,I1,rx,a,i,ex,ea,q⟩=>?_) ht;subst ex;obtain rfl:u=Value.ref a:=rx;obtain ⟨ox,J⟩:=(Aw I1.hok ea).inst;refine E3 I1.kIn J (c i) (hm i).at_ (beq_iff_eq.mp (hm i).fn) ?_;exact zO (first:=[.ref a]) I1.kIn (hm i).kp (IC (us:=[.ref a]) (vs:=[.ref a]) (F i) hr (hb i) hx I1 (.cons rfl .nil) q)
end
end L2
namespace HT
open PySem PyProof.Rows
open PySem.SeqAt
open PySem.AutoSeq1 (wpAny_loadPart')
open PySem.MeetsSeq PySem.MeetsSeq2 PySem.MeetsSeq3
def LC (A:bS) (s:ak) (x y:ae) (g:Bool):Prop:=∀ (prog:aJ) (w:bJ) (E:ae->ak->Prop) (Q:ae->ak->Prop),Q (.bool g) s->aU (aX prog w) A (rQ .Gt x y) Q E s
theorem IE (l b:aa) (x y:ae) (xs ys:List ae) (n m:Nat) (dd de:Option aa) (sl sm:Array (Option ae)) (g:Bool) :
  Meets (gX.«tuple.__gt__» ⟨[.ref l,.ref b],[]⟩)
   (fun A R s=>s.heap.get? l=some {cls:=.type "tuple",dict:=dd,data:=.seq (x :: xs).toArray n,slots:=sl}/\s.heap.get? b=some {cls:=.type "tuple",dict:=de,data:=.seq (y :: ys).toArray m,slots:=sm}/\EqAt A.in1 s x y false/\LC A.in1 s x y g/\R (.ok (.ret (.bool g))) s):=
 .of_wp fun prog w A R s h=>by
  obtain ⟨hp,gg,d,tk,os⟩:=s;obtain ⟨hl,hb,he,hg,h⟩:=h;have f2:=kP
  wp_walk using dE hl,dE hb,pZ _ (fun rest b s'=>b.1=none/\s'=⟨hp,gg,d,tk,os⟩/\∃ rest',rest=(x,y) :: rest') _
  case turn =>
   rintro ⟨y',x'⟩ rest b s' ⟨hb',rfl,rest',hz⟩;injection hz with hyx hrest;injection hyx with hy hx;subst hy hx;refine aq (he prog w _ _ ?_);have hri:∀ (E:ae->ak->Prop) (Q:ae->ak->Prop),Q (.bool g) ⟨hp,gg,d,tk,os⟩->aU (aX prog w) A.in1 (rQ .Gt _ _) Q E ⟨hp,gg,d,tk,os⟩:=fun E Q q=>hg prog w E Q q
   wp_walk using hri
   exact ⟨_,rfl,by simpa using h⟩
  case fin =>
   rintro ⟨b1,b2⟩ s' ⟨hb',rfl,rest',hz⟩
   cases hz
  case h =>
   exact ⟨rfl,rfl,xs.zip ys,by simp⟩
theorem gtAt_heads {A:bS} {s:ak} {l b:aa} {x y:ae} {xs ys:List ae} {g:Bool} (hl:tS s.heap l (x :: xs).toArray) (hb:tS s.heap b (y :: ys).toArray) (hu:A.units < eO) (he:EqAt A.in1 s x y false) (hg:LC A.in1 s x y g):LC A s (.ref l) (.ref b) g:=fun prog w E Q h=>by
 obtain ⟨⟨c1,dd,t1,sl⟩,o1,rfl,n,rfl⟩:=id hl;obtain ⟨⟨c2,de,t2,sm⟩,o2,rfl,m,rfl⟩:=id hb;exact qq (op:=.Gt) ⟨_,o1,rfl⟩ ⟨_,o2,rfl⟩ yE xU (wQ _ _) (IE l b x y xs ys n m dd de sl sm g)
  ⟨o1,o2,he,hg,show Value.bool g≠Value.notImplemented/\Q (.bool g) s from ⟨(fun x=>nomatch x),h⟩⟩ hu
end HT
namespace L2
open PySem PySem.Spec PyProof.Rows
section
variable {X:Cx}
def rGtH:R2:=fun x y H Q=>∃ a b ka kb ns ms ra rb,x=.ref a/\y=.ref b/\H a=some (.tup (.ref ka :: ra))/\H b=some (.tup (.ref kb :: rb))/\H ka=some (.tup (ns.map V.int))/\H kb=some (.tup (ms.map V.int))/\ns≠ms/\Q (.bl (HT.lexLt ms ns)) H
theorem LD (hu:X.A.units + 1 < eO):OpR X (dv .Gt) rGtH:=by
 intro pins s σ H x y v u Q I rx ry h;obtain ⟨a,b,ka,kb,ns,ms,ra,rb,rfl,rfl,ha,hb,hka,hkb,ne,q⟩:=h
 cases rx
 cases ry;obtain ⟨its,r1,p1,_⟩:=I.tuple (SqT.of ha);obtain ⟨its2,r2,p2,_⟩:=I.tuple (SqT.of hb);obtain ⟨k1,s1,q1,_⟩:=I.tuple (SqT.of hka);obtain ⟨k2,s2,q2,_⟩:=I.tuple (SqT.of hkb);have i1:eF k1.toArray.toList ns:=intsAre_of s1;have i2:eF k2.toArray.toList ms:=intsAre_of s2;have hu1:X.A.in1.units < eO:=hu;have e:=wR (A:=X.A.in1) I.hok hu1 hka hkb;rw [decide_eq_false ne] at e
 cases r1 with
 | cons w1 r1 =>
  cases r2 with
  | cons w2 r2 =>
   cases w1
   cases w2;exact HT.gtAt_heads p1 p2 (by omega) e (fun prog w E Q h=>HT.gt_tup q1 q2 i1 i2 hu1 h) _ _ _ _ ⟨.bl (HT.lexLt ms ns),H,I,rfl,q⟩
end
end L2
namespace L2
open PySem PySem.W PyProof.Rows HT
def iu (a b:List Int):Prop:=lexLt b a=false
theorem iu.refl (a:List Int):iu a a:=Ar a
theorem iu.trans {a b c:List Int} (h1:iu a b) (h2:iu b c):iu a c:=by
 unfold iu at *
 cases e:lexLt c a with
 | false=>rfl
 | true =>
  cases f:lexLt a b with
  | true =>
   rw [lx_trans e f] at h2
   cases h2
  | false =>
   rw [qQ f h1] at e;rw [e] at h2
   cases h2
theorem iu.of_lt {a b:List Int} (h:lexLt a b=true):iu a b:=lx_asym h
theorem Fb {a b c:List Int} (h:lexLt a b=true) (h2:iu b c):lexLt a c=true:=by
 cases e:lexLt a c with
 | true=>rfl
 | false =>
  have z:iu c a:=e;have y:=h2.trans z;unfold iu at y;rw [h] at y
  cases y
theorem iu.anti {a b:List Int} (h1:iu a b) (h2:iu b a):a=b:=qQ h2 h1
def KR {α:Type} (r:Nat->List Int) (n:Nat):KasT α->(α->Prop)->Prop
 | .ret a,Q=>Q a
 | .ask i j k,Q=>(i < n/\j < n/\i≠j)/\KR r n (k (lexLt (r i) (r j))) Q
section
variable {r:Nat->List Int} {n:Nat}
theorem KR.bind {α β:Type} {f:α->KasT β} {Q:β->Prop}:∀ {t:KasT α},KR r n t (fun a=>KR r n (f a) Q)->KR r n (t.bind f) Q
 | .ret _,h=>h
 | .ask _ _ k,⟨h1,h3⟩=>⟨h1,KR.bind h3⟩
theorem KR.sound {α:Type} {cmp:Nat->Nat->(Bool->ak->Prop)->ak->Prop} {s:ak} {Q:α->Prop} (hc:∀ i j (C:Bool->ak->Prop),i < n->j < n->i≠j->C (lexLt (r i) (r j)) s->cmp i j C s):∀ {t:KasT α},KR r n t Q->t.kasWp cmp (fun a s'=>s'=s/\Q a) s
 | .ret _,h=>⟨rfl,h⟩
 | .ask i j k,⟨⟨h1,h2,h4⟩,h3⟩=>hc i j _ h1 h2 h4 (KR.sound hc h3)
theorem IF {α:Type} {a b:KasT α} {Q:α->Prop} (h:KR r n a Q):KR r n (if true=true then a else b) Q:=by
 rw [if_pos rfl];exact h
theorem IG {α:Type} {a b:KasT α} {Q:α->Prop} (h:KR r n b Q):KR r n (if false=true then a else b) Q:=by
 rw [if_neg (by simp)];exact h
def Rk (r:Nat->List Int) (p:Array Nat) (i:Nat):List Int:=r (p.getD i 0)
def Pm (n:Nat) (p:Array Nat):Prop:=p.Perm (oh n).toArray
theorem Pm.size {p:Array Nat} (h:Pm n p):p.size=n:=by
 have:=h.size_eq;simpa using this
theorem Pm.lt {p:Array Nat} (h:Pm n p) {i:Nat} (hi:i < n):p.getD i 0 < n:=by
 have hs:i < p.size:=by rw [h.size]; exact hi
 have e:p.getD i 0=p[i]:=by simp [n6,hs]
 rw [e];have m:p[i]∈p.toList:=by simp
 have z:=(iw.mp h).mem_iff.mp m;simpa using z
theorem Pm.two {p:Array Nat} (h:Pm n p) {i j:Nat} (hi:i < n) (hj:j < n) (ne:i≠j):p.getD i 0 < n/\p.getD j 0 < n/\p.getD i 0≠p.getD j 0:=by
 refine ⟨h.lt hi,h.lt hj,?_⟩;have nd:p.toList.Nodup:=(iw.mp h).nodup_iff.mpr (by simpa using List.nodup_range);have h1:i < p.size:=by rw [h.size]; exact hi
 have h2:j < p.size:=by rw [h.size]; exact hj
 have e1:p.getD i 0=p.toList[i]'(by simpa using h1):=by simp [n6,h1]
 have e2:p.getD j 0=p.toList[j]'(by simpa using h2):=by simp [n6,h2]
 rw [e1,e2];intro z
 rcases Fc ne with c | c
 ·exact c9.mp nd i j _ _ c z
 ·exact c9.mp nd j i _ _ c z.symm
theorem qx (p:Array Nat) (i:Nat):p.getD i 0=(p[i]?).getD 0:=by
 by_cases h:i < p.size
 ·simp [n6,h]
 ·simp [n6,h]
theorem Pm.rev {p:Array Nat} (h:Pm n p) (i j:Nat):Pm n (Ni p i j):=(mirror_perm _ _ _ _).trans h
theorem Pm.bub {p:Array Nat} (h:Pm n p) (i j:Nat):Pm n (bubble p i j):=(bubble_perm _ _ _).trans h
theorem Az {p:Array Nat} {i j:Nat} (hj:j<=p.size) (k:Nat):Rk r (Ni p i j) k=if i<=k/\k < j then Rk r p (i + j - 1 - k) else Rk r p k:=by
 unfold Rk Ni;rw [qx,getElem?_mirror_all hj,qx,qx]
 split <;> rfl
theorem Fd {p:Array Nat} {src d:Nat} (hs:src < p.size) (hd:d<=src) (k:Nat):Rk r (bubble p src d) k=if k=src - d then Rk r p src else if src - d < k/\k<=src then Rk r p (k - 1) else Rk r p k:=by
 unfold Rk;rw [qx,getElem?_bubble hs d hd,qx,qx,qx]
 repeat' split
 all_goals rfl
theorem rW {p:Array Nat} {i j:Nat} (hj:j<=p.size) (heq:∀ k,i<=k->k < j->Rk r p k=Rk r p (j - 1)) (k:Nat):Rk r (Ni p i j) k=Rk r p k:=by
 rw [Az hj]
 split
 ·rw [heq k (by omega) (by omega),heq _ (by omega) (by omega)]
 ·rfl
def Srt (r:Nat->List Int) (p:Array Nat) (m:Nat):Prop:=∀ i j,i<=j->j < m->iu (Rk r p i) (Rk r p j)
def Fal (r:Nat->List Int) (p:Array Nat) (m:Nat):Prop:=∀ i j,i<=j->j < m->iu (Rk r p j) (Rk r p i)
theorem Srt.one (p:Array Nat):Srt r p 1:=fun i j h1 h2=>by
 have:i=j:=by omega
 subst this;exact iu.refl _
theorem Srt.up {p:Array Nat} {x:Nat} (h1:1<=x) (h:Srt r p x) (l:iu (Rk r p (x - 1)) (Rk r p x)):Srt r p (x + 1):=fun i j hij hj=>by
 by_cases c:j < x
 ·exact h i j hij c
 ·have:j=x:=by omega
  subst this
  by_cases d:i=j
  ·subst d;exact iu.refl _
  ·exact (h i (j - 1) (by omega) (by omega)).trans l
theorem Fal.up {p:Array Nat} {x:Nat} (h1:1<=x) (h:Fal r p x) (l:iu (Rk r p x) (Rk r p (x - 1))):Fal r p (x + 1):=fun i j hij hj=>by
 by_cases c:j < x
 ·exact h i j hij c
 ·have:j=x:=by omega
  subst this
  by_cases d:i=j
  ·subst d;exact iu.refl _
  ·exact l.trans (h i (j - 1) (by omega) (by omega))
theorem Fal.eq {p p':Array Nat} {m:Nat} (e:∀ k,Rk r p' k=Rk r p k) (h:Fal r p m):Fal r p' m:=fun i j a b=>by
 rw [e,e];exact h i j a b
theorem AA {p:Array Nat} (hp:Pm n p) {N:Nat} (hN:N<=n) {Q:Nat->Prop} (h:∀ q,1<=q->q<=N->Srt r p q->(q=N\/lexLt (Rk r p q) (Rk r p (q - 1))=true)->Q q):∀ (f m:Nat),1<=m->m + f=N->Srt r p m->KR r n (kas_asc p f m) Q
 | 0,m,h1,hf,hs=>h m h1 (by omega) hs (.inl (by omega))
 | f + 1,m,h1,hf,hs=>by
  refine ⟨hp.two (by omega) (by omega) (by omega),?_⟩
  cases e:lexLt (r (p.getD m 0)) (r (p.getD (m - 1) 0)) with
  | true=>exact h m h1 (by omega) hs (.inr e)
  | false=>exact AA hp hN h f (m + 1) (by omega) (by omega) (hs.up h1 e)
theorem uf {N:Nat} (hN:N<=n) {Q:Array Nat×Nat×Nat->Prop} {m0:Nat} (h:∀ p m q,Pm n p->m0<=m->m<=N->Fal r p m->q + 1<=m->(∀ i,m - (q + 1)<=i->i < m->Rk r p i=Rk r p (m - 1))->Q (p,m,q)) :
  ∀ (f:Nat) (p:Array Nat) (m q:Nat),Pm n p->1<=m->m0<=m->m + f=N->Fal r p m->q + 1<=m->(∀ i,m - (q + 1)<=i->i < m->Rk r p i=Rk r p (m - 1))->KR r n (kas_desc f p m q) Q
 | 0,p,m,q,hp,h1,h0,hf,hs,hq,he=>h p m q hp h0 (by omega) hs hq he
 | f + 1,p,m,q,hp,h1,h0,hf,hs,hq,he=>by
  refine ⟨hp.two (by omega) (by omega) (by omega),?_⟩;have hsz:m<=p.size:=by rw [hp.size]; omega
  cases e:lexLt (r (p.getD m 0)) (r (p.getD (m - 1) 0)) with
  | true =>
   refine IF ?_;have up:=hs.up h1 (iu.of_lt e)
   by_cases c:q > 0
   ·rw [if_pos c];exact uf hN h f _ (m + 1) 0 (hp.rev _ _) (by omega) (by omega) (by omega) (up.eq (rW hsz he)) (by omega) (fun i a b=>by congr 1; omega)
   ·rw [if_neg c];exact uf hN h f p (m + 1) 0 hp (by omega) (by omega) (by omega) up (by omega) (fun i a b=>by congr 1; omega)
  | false =>
   refine IG ?_;refine ⟨hp.two (by omega) (by omega) (by omega),?_⟩
   cases d:lexLt (r (p.getD (m - 1) 0)) (r (p.getD m 0)) with
   | true =>
    refine IF ?_;exact h p m q hp h0 (by omega) hs hq he
   | false =>
    refine IG ?_;have eq:Rk r p m=Rk r p (m - 1):=qQ e d;refine uf hN h f p (m + 1) (q + 1) hp (by omega) (by omega) (by omega) (hs.up h1 (by rw [eq]; exact iu.refl _)) (by omega) (fun i a b=>?_);rw [show m + 1 - 1=m by omega]
    by_cases c:i=m
    ·subst c;rfl
    ·rw [eq];exact he i (by omega) (by omega)
theorem zg {N:Nat} (hN:N<=n) {Q:Nat×Array Nat->Prop} (h:∀ m p,Pm n p->1<=m->m<=N->Srt r p m->Q (m,p)) {p:Array Nat} {m:Nat} (hp:Pm n p) (h1:1<=m) (hm:m<=N) (hs:Fal r p m):KR r n (kas_tail3 m N p) Q:=by
 unfold kas_tail3;have hsz:m<=p.size:=by rw [hp.size]; omega
 refine KR.bind (AA (hp.rev 0 m) hN (fun q a b c _=>?_) (N - m) m h1 (by omega) fun i j hij hj=>?_)
 ·exact h q _ (hp.rev 0 m) a b c
 ·rw [Az hsz,Az hsz,if_pos (by omega),if_pos (by omega)];exact hs _ _ (by omega) (by omega)
theorem tj {N:Nat} (hN:N<=n) {Q:Nat×Array Nat->Prop} (h:∀ m p,Pm n p->1<=m->m<=N->Srt r p m->Q (m,p)) {p:Array Nat} {m:Nat} (hp:Pm n p) (hm:m + 1<=N) (hs:Fal r p (m + 1)):KR r n (kas_descPart m N p) Q:=by
 unfold kas_descPart;refine KR.bind (uf (m0:=m + 1) hN (fun p' m' q hp' a b hs' hq he=>?_) (N - (m + 1)) p (m + 1) 0 hp (by omega) (aC _) (by omega) hs (by omega) (fun i a b=>by congr 1; omega));dsimp only;have hsz:m'<=p'.size:=by rw [hp'.size]; omega
 by_cases c:q > 0
 ·rw [if_pos c];exact zg hN h (hp'.rev _ _) (by omega) b (hs'.eq (rW hsz he))
 ·rw [if_neg c];exact zg hN h hp' (by omega) b hs'
theorem Fe {Q:Nat×Array Nat->Prop} (h:∀ m p,Pm n p->1<=m->m<=n->Srt r p m->Q (m,p)) {p:Array Nat} (hp:Pm n p) (h1:1<=n):KR r n (kas_count n p) Q:=by
 unfold kas_count;refine KR.bind (AA hp (aC n) (fun m m1 mn hs hor=>?_) (n - 1) 1 (aC _) (by omega) (Srt.one p))
 by_cases c:m=n
 ·rw [if_pos (by simpa using c)];exact h m p hp m1 mn hs
 ·rw [if_neg (by simpa using c)];have hlt:=hor.resolve_left c
  by_cases g:m > 1
  ·rw [if_pos g];refine ⟨hp.two (by omega) (by omega) (by omega),?_⟩
   cases e:lexLt (r (p.getD 0 0)) (r (p.getD (m - 1) 0)) with
   | true =>
    refine IF ?_;exact h m p hp m1 mn hs
   | false =>
    refine IG ?_;have hsz:m<=p.size:=by rw [hp.size]; omega
    have hall:∀ k,0<=k->k < m->Rk r p k=Rk r p (m - 1):=fun k _ hk=>by
     have a1:=hs 0 k (by omega) hk;have a2:=hs k (m - 1) (by omega) (by omega);exact a2.anti (iu.trans (show iu (Rk r p (m - 1)) (Rk r p 0) from e) a1)
    refine tj (aC n) h (hp.rev _ _) (by omega) (Fal.eq (rW hsz hall) ?_);refine Fal.up (by omega) (fun i j hij hj=>?_) (iu.of_lt hlt);rw [hall i (by omega) (by omega),hall j (by omega) hj];exact iu.refl _
  ·rw [if_neg g];have:m=1:=by omega
   subst this;exact tj (aC n) h hp (by omega) (Fal.up (aC _) (fun i j a b=>by
    have:i=j:=by omega
    subst this;exact iu.refl _) (iu.of_lt hlt))
theorem uY {p:Array Nat} {k:Nat} (hp:Pm n p) (hk:k < n) (hs:Srt r p k) {Q:Nat->Prop} (h:∀ l,l<=k->(∀ i,i < l->iu (Rk r p i) (Rk r p k))->(∀ i,l<=i->i < k->lexLt (Rk r p k) (Rk r p i)=true)->Q l) :
  ∀ (f l q:Nat),l<=q->q<=k->q - l<=f->(∀ i,i < l->iu (Rk r p i) (Rk r p k))->(∀ i,q<=i->i < k->lexLt (Rk r p k) (Rk r p i)=true)->KR r n (kas_place p k f l q) Q
 | 0,l,q,a,b,c,lo,hi=>by
  have:l=q:=by omega
  subst this;exact h l b lo hi
 | f + 1,l,q,a,b,c,lo,hi=>by
  unfold kas_place
  by_cases d:l ≥ q
  ·rw [if_pos d];have:l=q:=by omega
   subst this;exact h l b lo hi
  ·rw [if_neg d];refine ⟨hp.two hk (by omega) (by omega),?_⟩
   cases e:lexLt (r (p.getD k 0)) (r (p.getD ((l + q) / 2) 0)) with
   | true =>
    refine IF ?_;exact uY hp hk hs h f l _ (by omega) (by omega) (by omega) lo fun i h1 h2=>Fb e (hs _ _ h1 h2)
   | false =>
    refine IG ?_;exact uY hp hk hs h f _ q (by omega) (by omega) (by omega) (fun i h1=>(hs i ((l + q) / 2) (by omega) (by omega)).trans e) hi
theorem Ff {Q:Array Nat->Prop} (h:∀ p,Pm n p->Srt r p n->Q p):∀ (f:Nat) (p:Array Nat) (k:Nat),Pm n p->k + f=n->Srt r p k->KR r n (kas_bin f p k) Q
 | 0,p,k,hp,hf,hs=>h p hp (by rw [<- hf]; exact hs)
 | f + 1,p,k,hp,hf,hs=>by
  unfold kas_bin;refine KR.bind (uY hp (by omega) hs (fun l hl lo hi=>?_) k 0 k (bT _) (aC _) (by omega) (fun i h=>absurd h (by omega)) (fun i a b=>absurd b (by omega)));refine Ff h f _ (k + 1) (hp.bub _ _) (by omega) fun i j hij hj=>?_;have hks:k < p.size:=by rw [hp.size]; omega
  rw [Fd hks (by omega),Fd hks (by omega),show k - (k - l)=l by omega]
  repeat' split
  all_goals first
   |(exfalso; omega)
   | exact iu.refl _
   | exact lo _ (by omega)
   | exact iu.of_lt (hi _ (by omega) (by omega))
   | exact hs _ _ (by omega) (by omega)
theorem IH (h1:1<=n):KR r n (kas_sort n) (fun p=>Pm n p/\Srt r p n):=by
 unfold kas_sort;refine KR.bind (Fe (fun m p hp m1 mn hs=>?_) (Array.Perm.refl _) h1);dsimp only
 by_cases c:m < n
 ·rw [if_pos c];refine Ff (fun p hp hs=>⟨hp,hs⟩) _ p (max m 1) hp (by omega) ?_;rw [show max m 1=m by omega];exact hs
 ·rw [if_neg c];have:m=n:=by omega
  subst this;exact ⟨hp,hs⟩
end
end L2
namespace L2
open PySem PySem.W PySem.Spec PyProof.Rows HT
section
variable {prog:aJ} {w:bJ} {A:bS} {E:ae->ak->Prop} {s:ak}
theorem tO {h0:cu} {a:aa} {vs:List ae} {n:Nat} {b:Bool} {P:Fin->ak->Prop} {r:Nat->List Int} (ho:s.heap.get? a=some (dA "list" vs.toArray n)) (k0:∀ c o,h0.get? c=some o->s.heap.get? c=some o) (ha0:h0.get? a=none) (h2:2<=vs.length) (h64:vs.length < 64)
  (hk:∀ h':cu,(∀ c o,h0.get? c=some o->h'.get? c=some o)->∀ Q:SortKind->ak->Prop,Q (zV false) {s with heap:=h'}->aU (aX prog w) A (keyKind' vs.toArray) Q E {s with heap:=h'})
  (hc:∀ h':cu,(∀ c o,h0.get? c=some o->h'.get? c=some o)->∀ i j (C:Bool->ak->Prop),i < vs.length->j < vs.length->i≠j->C (lexLt (r i) (r j)) {s with heap:=h'}->kas_ask prog w A (zV false) (kf b vs) i j C {s with heap:=h'})
  (h:∀ p,Pm vs.length p->Srt r p vs.length->P (.done (.ret .none)) {s with heap:=sortedHeap s.heap a vs (tu (kf b (p.toList.map fun i=>(kf b vs).getD i Value.none)))}) :
  aU (aX prog w) A (gX.«list.sort» ⟨[.ref a],[(kM "reverse",.bool b)]⟩) P E s:=by
 rw [list_sort_rev];have ha:a < s.heap.objs.size:=aN ho;refine aq (listItems_at ho rfl ?_);refine aq (ue ho rfl ?_);obtain ⟨e1,ho1⟩:∃ e1,(s.heap.update a (cX fun _=>#[])).get? a=some (dA "list" #[] e1):=⟨_,get?_update_seq ho (fun _=>#[])⟩;refine aq (yF ho1 rfl ?_);refine aq (wpAny_newTuple ?_);refine aq (oV ?_);refine dO ?_;have ho6:(((s.heap.update a (cX fun _=>#[])).push (dA "tuple" vs.toArray 0)).push (dA "list" #[] 0)).get? a=some (dA "list" #[] e1):=by
  rw [fu _ _ _ (by rw [uX,gk]; exact aO (ij ha)),fu _ _ _ (by rw [gk]; exact aO ha)];exact ho1
 have old6:∀ c o,h0.get? c=some o->(((s.heap.update a (cX fun _=>#[])).push (dA "tuple" vs.toArray 0)).push (dA "list" #[] 0)).get? c=some o:=fun c o e=>by
  have lt:c < s.heap.objs.size:=aN (k0 c o e);have ne:c≠a:=fun z=>by
   rw [z,ha0] at e
   cases e
  rw [fu _ _ _ (by rw [uX,gk]; exact aO (ij lt)),fu _ _ _ (by rw [gk]; exact aO lt),C0 _ _ _ _ ne];exact k0 c o e
 show aU (aX prog w) A _ P E {s with heap:=((s.heap.update a (cX fun _=>#[])).push (dA "tuple" vs.toArray 0)).push (dA "list" #[] 0)};dsimp only;have step:∀ t:Sem Fin,aU (aX prog w) A t P E {s with heap:=((s.heap.update a (cX fun _=>#[])).push (dA "tuple" vs.toArray 0)).push (dA "list" #[] 0)} ->
   aU (aX prog w) A (if b=true then (do let _ <- HL "list.sort.reverse"; t) else t) P E {s with heap:=((s.heap.update a (cX fun _=>#[])).push (dA "tuple" vs.toArray 0)).push (dA "list" #[] 0)}:=by
  intro t ht
  split
  ·exact aq (Ap ht)
  ·exact ht
 refine step _ ?_;have h2':¬ vs.toArray.size < 2:=by
  rw [aG];omega
 rw [if_neg h2',if_neg h2'];refine aq (hk _ old6 _ ?_);rw [kat_pairs b rfl];have el:=kat_len b vs;refine aq (d7 (kat_run (ks:=kf b vs) (vs:=kf b vs) (κ:=zV false) (Q:=fun st' s'=>∃ p:Array Nat,arrOf st'=p.map (kas_item ((kf b vs).toArray.zip (kf b vs).toArray))/\failedOf st'=none/\s'={s with heap:=((s.heap.update a (cX fun _=>#[])).push (dA "tuple" vs.toArray 0)).push (dA "list" #[] 0)}/\Pm vs.length p/\Srt r p vs.length) (G:=fun p s'=>s'={s with heap:=((s.heap.update a (cX fun _=>#[])).push (dA "tuple" vs.toArray 0)).push (dA "list" #[] 0)}/\Pm vs.length p/\Srt r p vs.length) rfl (by rw [el]; exact h2) (by rw [el]; exact h64) (fun p st' s' hp har hf hg=>⟨p,har,hf,hg⟩) (by
  rw [el];exact KR.sound (hc _ old6) (IH (by omega)))) ?_ fun _ _ e=>e)
 rintro ⟨⟨⟩,st'⟩ s' ⟨p,har,hf,rfl,hpm,hsr⟩;dsimp only;have out:=kat_snds (ks:=kf b vs) (vs:=kf b vs) rfl har;refine aq (yF ho6 rfl ?_);rw [out,kat_outs];have lp:(kf b (p.toList.map fun i=>(kf b vs).getD i Value.none)).length < 64:=by
  rw [kat_len,ar,fH,hpm.size];exact h64
 refine aq (ue ho6 rfl ?_ (hsz2:=by rw [aG,kH]; omega));rw [hf];simp only [bne_self_eq_false,rD,if_false];exact aV (h p hpm hsr)
theorem sorted_N {l:aa} {vs:List ae} {b:Bool} {Q:ae->ak->Prop} {r:Nat->List Int} (hl:s.heap.IsList l vs.toArray) (h2:2<=vs.length) (h64:vs.length < 64)
  (hk:∀ (A':bS) (E:ae->ak->Prop) (h':cu),A'.units<=A.units + 2->(∀ c o,s.heap.get? c=some o->h'.get? c=some o)->∀ Q:SortKind->ak->Prop,Q (zV false) {s with heap:=h'}->aU (aX prog w) A' (keyKind' vs.toArray) Q E {s with heap:=h'})
  (hc:∀ (A':bS) (h':cu),A'.units<=A.units + 2->(∀ c o,s.heap.get? c=some o->h'.get? c=some o)->∀ i j (C:Bool->ak->Prop),i < vs.length->j < vs.length->i≠j->C (lexLt (r i) (r j)) {s with heap:=h'}->kas_ask prog w A' (zV false) (kf b vs) i j C {s with heap:=h'})
  (h:∀ p,Pm vs.length p->Srt r p vs.length->Q (.ref (s.heap.objs.size + 1)) {s with heap:=Ee s.heap vs (tu (kf b (p.toList.map fun i=>(kf b vs).getD i Value.none)))}) :
  aU (aX prog w) A (vJ (.builtin "sorted") [.ref l] [(kM "reverse",.bool b)]) Q E s:=by
 refine E7 IA E8 E9 (args_sorted_rev _ _) ?_;unfold gX.«sorted»;refine aq (m:=Lz "sorted" 1 1 _) (aV ?_);refine aq (collect_list hl ?_);refine aq (oV ?_);have hsz:((s.heap.push (dA "list" #[] 0)).update s.heap.objs.size (cX (·++vs.toArray))).objs.size=s.heap.objs.size + 1:=by
  rw [gk,uX]
 have hoL:(((s.heap.push (dA "list" #[] 0)).update s.heap.objs.size (cX (·++vs.toArray))).push (dA "list" vs.toArray 0)).get? (s.heap.objs.size + 1)=some (dA "list" vs.toArray 0):=by
  rw [<- hsz]; exact cj _ rfl
 have k0:∀ c o,s.heap.get? c=some o->(((s.heap.push (dA "list" #[] 0)).update s.heap.objs.size (cX (·++vs.toArray))).push (dA "list" vs.toArray 0)).get? c=some o:=fun c o e=>by
  have lt:c < s.heap.objs.size:=aN e;rw [fu _ _ _ (by rw [hsz]; exact aO (ij lt)),C0 _ _ _ _ (aO lt),fu _ _ _ (aO lt)];exact e
 have a0:s.heap.get? (s.heap.objs.size + 1)=none:=by
  cases e:s.heap.get? (s.heap.objs.size + 1) with
  | none=>rfl
  | some o =>
   have:=aN e;exact absurd this (Nat.not_lt.mpr (fq _))
 show aU _ _ _ _ _ {s with heap:=((s.heap.push (dA "list" #[] 0)).update s.heap.objs.size (cX (·++vs.toArray))).push (dA "list" vs.toArray 0)};rw [hsz];refine aq (dO (J1 Ay ⟨_,hoL,rfl⟩ ze (tO (h0:=s.heap) (r:=r) hoL k0 a0 h2 h64 (fun h' k Q q=>hk _ _ h' (aC _) k Q q) (fun h' k i j C hi hj ne q=>hc _ h' (aC _) k i j C hi hj ne q) fun p a1 a2=>⟨_,rfl,?_⟩) (LA _ _)));exact aV ⟨_,rfl,h p a1 a2⟩
end
def AB (H:Hp) (z:V×List Int):Prop:=∃ a k ra,z.1=.ref a/\H a=some (.tup (.ref k :: ra))/\H k=some (.tup (z.2.map V.int))
theorem rX:∀ {xs:List V} {its:List ae},cU xs its->∀ (i:Nat),i < xs.length->∃ v,its.getD i Value.none=v/\∃ x,xs[i]?=some x/\RelV x v
 | _,_,.nil,i,h=>absurd h (by simp)
 | _,_,.cons a b,0,h=>⟨_,rfl,_,rfl,a⟩
 | _,_,.cons a b,i + 1,h=>by
  obtain ⟨v,e,x,h1,h2⟩:=rX b i (by simpa using h);exact ⟨v,by simpa using e,x,by simpa using h1,h2⟩
theorem wW {xs:List V} {its:List ae} (h:cU xs its) (d:V):∀ (is:List Nat),(∀ i∈is,i < xs.length)->cU (is.map fun i=>(xs.getD i d)) (is.map fun i=>its.getD i Value.none)
 | [],_=>.nil
 | i :: is,hb=>by
  obtain ⟨v,e,x,h1,h2⟩:=rX h i (hb i ax);refine .cons ?_ (wW h d is fun j hj=>hb j (ag _ hj));show RelV (xs.getD i d) (its.getD i Value.none);rw [e,dD,h1];exact h2
theorem AC {α:Type} (l:List α) (d:α):(oh l.length).map (fun i=>l.getD i d)=l:=by
 apply E1;intro i;rw [cI]
 by_cases h:i < l.length
 ·rw [List.getElem?_range h,Fg,dD,aM h];rfl
 ·rw [gs (by simpa using h),gs (by omega)];rfl
def oa:V×List Int:=(.non,[])
theorem Fh {zs:List (V×List Int)} (nd:(zs.map (·.2)).Nodup) {p:Array Nat} (hp:Pm zs.length p) (hs:Srt (fun i=>(zs.reverse.getD i oa).2) p zs.length) :
  ((p.toList.map fun i=>zs.reverse.getD i oa).reverse).Perm zs/\((p.toList.map fun i=>zs.reverse.getD i oa).reverse).Pairwise (fun a b=>HT.lexLt b.2 a.2=true):=by
 have pl:p.toList.Perm (oh zs.length):=by simpa using iw.mp hp
 have pm:(p.toList.map fun i=>zs.reverse.getD i oa).Perm zs:=by
  refine (pl.map _).trans ?_;have e:=AC zs.reverse oa;rw [iP] at e;rw [e];exact tw _
 refine ⟨(tw _).trans pm,List.pairwise_reverse.mpr (c9.mpr fun i j hi hj hij=>?_)⟩;have nd2:((p.toList.map fun i=>zs.reverse.getD i oa).map (·.2)).Nodup:=(pm.map _).nodup_iff.mpr nd;have li:i < zs.length:=by
  have:=pm.length_eq;omega
 have lj:j < zs.length:=by
  have:=pm.length_eq;omega
 have at_:∀ k (h:k < (p.toList.map fun i=>zs.reverse.getD i oa).length),(p.toList.map fun i=>zs.reverse.getD i oa)[k].2=Rk (fun i=>(zs.reverse.getD i oa).2) p k:=fun k h=>by
  have hk:k < p.size:=by simpa using h
  unfold Rk;simp [n6,hk]
 have le:=hs i j (kF hij) lj;have ne:=c9.mp nd2 i j (by simpa using hi) (by simpa using hj) hij;rw [at_ i hi,at_ j hj];refine lx_of_not le fun z=>ne ((iI _).trans (Eq.trans ?_ (iI _).symm));rw [at_ i hi,at_ j hj];exact z.symm
section
variable {X:Cx} {e:cM} {t:TA} {p pos kp bp:Pos} {j:Nat}
def LF (t:TA):TE:=fun σ H Q=>t σ H fun vs H1=>∃ (p:aa) (zs:List (V×List Int)),vs=[.ref p]/\H1 p=some (.lst (zs.map (·.1)))/\(∀ z∈zs,AB H1 z)/\(zs.map (·.2)).Nodup/\zs.length < 64 /\
 ∀ (l:aa) (zs':List (V×List Int)),H1 l=none->zs'.Perm zs->zs'.Pairwise (fun a b=>HT.lexLt b.2 a.2=true)->Q (.ref l) (upd H1 l (.lst (zs'.map (·.1))))
theorem wX {s:ak} {H:Hp} {P:aJ} {w:bJ} (ok:HOk P w H s.heap):∀ {zs:List (V×List Int)} {its:List ae},cU (zs.map (·.1)) its->(∀ z∈zs,AB H z)->∃ fs,KatTups s.heap its fs/\fs.length=its.length/\∀ f∈fs,∃ k o,f=.ref k/\s.heap.get? k=some o/\o.cls=.type "tuple"
 | [],_,r,_=>by
  cases r;exact ⟨[],KatTups.nil,rfl,fun f hf=>by cases hf⟩
 | z :: zs,_,r,hz=>by
  cases r with
  | cons a b =>
   obtain ⟨fs,h1,h2,h3⟩:=wX ok b fun z hz'=>hz z (ag _ hz');obtain ⟨ad,k,ra,e1,e2,e3⟩:=hz z ax;have a:RelV z.1 _:=a;rw [e1] at a
   cases a;obtain ⟨us,r1,o1,g1,c1,n1,d1⟩:=iM ok e2;obtain ⟨ws,r2,o2,g2,c2,n2,d2⟩:=iM ok e3
   cases r1 with
   | cons a1 b1 =>
    cases a1;refine ⟨.ref k :: fs,KatTups.cons g1 c1 d1 rfl h1,by rw [aT,aT,h2],fun f hf=>?_⟩
    rcases au.mp hf with y | y
    ·exact ⟨k,o2,y,g2,c2⟩
    ·exact h3 f y
theorem Fi {ke:cM} (hu:X.A.units + 5 < eO) (hg:Gl X "sorted") (hm:X.mg "sorted"=none) (ha:PA X [e] t) (hk:PE X ke (tC (.bl true))) (he:ia pos (cw [e] X.env)=[(false,fc e X.env)]:=by rfl)
  (hall:(kJ pos (hZ [⟨some "reverse",ke,kp⟩] X.env)).all (·.1.isSome)=true:=by rfl) (hkw:(kJ pos (hZ [⟨some "reverse",ke,kp⟩] X.env)).any (·.1.isNone)=false:=by rfl)
  (hnm:(kJ pos (hZ [⟨some "reverse",ke,kp⟩] X.env)).filterMap (·.1)=[kM "reverse"]:=by rfl) :
  PE X (.Call (.Name "sorted" p) [e] [⟨some "reverse",ke,kp⟩] pos) (LF t):=by
 intro pins s σ H Q I h;refine ib (rE I hg hm boot_sorted ?_);refine callWith_kw (thn (ha pos pins s σ H _ I h) fun us s1 ⟨vs,H1,I1,r1,q1⟩=>?_) (by rw [he]; rfl) (by rw [he]; rfl) hall hkw;obtain ⟨l,zs,rfl,hl,hz,nd,h64,q⟩:=q1;obtain ⟨u,rfl,ru⟩:=vals1 r1
 cases ru;refine kws_cons (thn (hk pins s1 σ H1 (fun v H2=>v=.bl true/\H2=H1) I1 (show _/\_ from ⟨rfl,rfl⟩)) fun v s2 hk2=>kws_nil ?_);obtain ⟨y,H2,I2,r2,e1,e2⟩:=hk2;subst e1 e2
 cases r2;rw [hnm];obtain ⟨its,n,rv,ho,hzz⟩:=I2.lst hl;have hlen:=rv.length;rw [ar] at hlen;show aU _ _ (vJ (.builtin "sorted") [.ref l] [(kM "reverse",.bool true)]) _ _ _
 by_cases c:its.length < 2
 ·refine Ax (l:=l) (vs:=its) ⟨_,ho,rfl,n,rfl⟩ c ?_;obtain ⟨ep,he'⟩:=sortedAll_at s2.heap its its.toArray;have two:2<=aB:=by decide
  have z:=I2.laid (a:=s2.heap.objs.size + 1) (o:=.lst (zs.map (·.1))) (t':=s2.toks) (fun _ _=>sortedAll_old) (fq _) (h':=Ee s2.heap its its.toArray) ⟨by rw [ar]; omega,its,ep,rv,he'⟩;refine ⟨.ref (s2.heap.objs.size + 1),_,z,rfl,q _ zs (I2.hok.fresh (fq _)) (iY _) ?_⟩
  match zs,hlen with
  | [],_=>exact List.Pairwise.nil
  | [_],_=>exact nV _ _
  | _ :: _ :: _,hlen=>exact absurd c (by rw [<- hlen]; simp)
 ·have crev:∀ {α:Type} (l:List α),kf true l=l.reverse:=fun l=>rfl;refine sorted_N (l:=l) (vs:=its) (r:=fun i=>(zs.reverse.getD i oa).2) ⟨_,ho,rfl,n,rfl⟩ (by omega) (by omega) (fun A' E' h' hA k Q' q'=>?_) (fun A' h' hA k i j C hi hj ne q'=>?_) fun p hp hs=>?_
  ·have I3:=(I2.kept (t':=s2.toks) k).hok;obtain ⟨fs,h1,h2,h3⟩:=wX (s:={s2 with heap:=h'}) I3 rv hz;refine kat_kind (T:=.type "tuple") h1 (by omega) (fun v hv=>?_) (by rfl) ?_
   ·obtain ⟨kk,o,rfl,g,cl⟩:=h3 v hv;rw [<- cl];exact (Looks.ld g).andThen .now
   ·exact q'
  ·have I3:=(I2.kept (t':=s2.toks) k).hok;have vr:=rv.reverse;rw [<- ug] at vr;have at_:∀ m,m < its.length->∃ (a kk:aa) (us ws:List ae),its.reverse.getD m Value.none=.ref a/\tS h' a (.ref kk :: us).toArray/\tS h' kk ws.toArray/\eF ws (zs.reverse.getD m oa).2/\H2 kk=some (.tup ((zs.reverse.getD m oa).2.map V.int)):=fun m hm=>by
    have hm':m < zs.reverse.length:=by rw [iP]; omega
    obtain ⟨v,ev,x,hx,rx⟩:=rX vr m (by rw [ar]; exact hm');rw [cI,aM hm'] at hx
    cases hx;have ez:zs.reverse.getD m oa=zs.reverse[m]:=by rw [dD,aM hm']; rfl
    obtain ⟨ad,kk,ra,e1,e2,e3⟩:=hz _ (List.mem_reverse.mp (uh hm'));have rx:RelV (zs.reverse[m]).1 v:=rx;rw [e1] at rx
    cases rx;obtain ⟨us,r1,t1⟩:=iM (s:={s2 with heap:=h'}) I3 e2;obtain ⟨ws,r2,t2⟩:=iM (s:={s2 with heap:=h'}) I3 e3
    cases r1 with
    | cons a1 b1 =>
     cases a1;exact ⟨ad,kk,_,ws,ev,t1,t2,by rw [ez]; exact intsAre_of r2,by rw [ez]; exact e3⟩
   obtain ⟨a1,k1,us1,ws1,g1,t1,u1,i1,m1⟩:=at_ i hi;obtain ⟨a2,k2,us2,ws2,g2,t2,u2,i2,m2⟩:=at_ j hj;have neK:(zs.reverse.getD i oa).2≠(zs.reverse.getD j oa).2:=by
    have nd2:((zs.reverse).map (·.2)).Nodup:=((tw zs).map _).nodup_iff.mpr nd;have h1:i < zs.reverse.length:=by rw [iP]; omega
    have h2:j < zs.reverse.length:=by rw [iP]; omega
    rw [dD,aM h1,dD,aM h2];show (zs.reverse[i]).2≠(zs.reverse[j]).2
    rcases Fc ne with c | c
    ·exact fun z=>c9.mp nd2 i j (by simpa using h1) (by simpa using h2) c ((iI _).trans (z.trans (iI _).symm))
    ·exact fun z=>c9.mp nd2 j i (by simpa using h2) (by simpa using h1) c ((iI _).trans (z.symm.trans (iI _).symm))
   have eq:=wR (s:={s2 with heap:=h'}) (A:=A') I3 (by omega) m1 m2;rw [decide_eq_false neK] at eq;show aU _ A' (keyLt' (zV false) (its.reverse.getD i Value.none) (its.reverse.getD j Value.none)) C _ _;rw [g1,g2];obtain ⟨o1,y1,_,n1,d1⟩:=id t1;obtain ⟨o2,y2,_,n2,d2⟩:=id t2;refine kat_lt (s:={s2 with heap:=h'}) y1 d1 y2 d2 (kat_cons (eq _ _ _ _ (kat_no (kat_one _ _ (HT.lt_tupInts u1 u2 i1 i2 (by omega) q')))))
  ·have hp':Pm zs.length p:=by rw [hlen]; exact hp
   obtain ⟨pk1,pk2⟩:=Fh nd hp' (by rw [hlen]; exact hs);have vr:=rv.reverse;rw [<- ug] at vr;have vo:=(wW vr V.non p.toList fun i hi=>by
    rw [ar,iP];have:=(iw.mp hp').mem_iff.mp hi;simpa using this).reverse
   have ev:(p.toList.map fun i=>(zs.reverse.map (·.1)).getD i V.non).reverse=((p.toList.map fun i=>zs.reverse.getD i oa).reverse).map (·.1):=by
    refine Eq.trans ?_ ug.symm;rw [dS]
    congr 1
    refine gO fun i _=>?_;show (zs.reverse.map (·.1)).getD i V.non=(zs.reverse.getD i oa).1;rw [dD,cI,dD]
    cases zs.reverse[i]? <;> rfl
   rw [ev] at vo;obtain ⟨ep,he'⟩:=sortedAll_at s2.heap its (tu (p.toList.map fun i=>its.reverse.getD i Value.none).reverse);have z:=I2.laid (a:=s2.heap.objs.size + 1) (o:=.lst (((p.toList.map fun i=>zs.reverse.getD i oa).reverse).map (·.1))) (t':=s2.toks) (fun _ _=>sortedAll_old) (fq _) (h':=Ee s2.heap its (tu (p.toList.map fun i=>its.reverse.getD i Value.none).reverse)) ⟨by
    rw [ar,pk1.length_eq];have:64<=aB:=by decide
    omega,_,ep,vo,he'⟩
   exact ⟨.ref (s2.heap.objs.size + 1),_,z,rfl,q _ _ (I2.hok.fresh (fq _)) pk1 pk2⟩
end
end L2
namespace PySem
open SeqAt MeetsSeq MeetsSeq2 MeetsSeq3 SeqRoads2
section
variable {prog:aJ} {w:bJ} {A:bS} {s:ak}
variable {K:Type} [DecidableEq K] {knd:KeyKind prog w K}
end
end PySem
namespace L2
open PySem PySem.Spec PyProof.Rows PySem.SeqAt
section
variable {X:Cx}
end
end L2
namespace L2
open PySem PySem.Spec PyProof.Rows
section
variable {X:Cx}
theorem xV (hu:X.A.units + 50 < eO):OpR X (dv .NotEq) (fun x y H Q=>∃ p q xs,x=.ref p/\y=.ref q/\H p=some (.lst xs)/\H q=some (.lst [])/\Q (.bl (!xs.isEmpty)) H):=by
 intro pins s σ H x y v u Q I rx ry h;obtain ⟨p,q,xs,rfl,rfl,h1,h2,k⟩:=h
 cases xs with
 | nil=>exact EZ hu pins s σ H _ _ v u Q I rx ry ⟨1,p,q,by omega,rfl,rfl,.inr (.inl ⟨p,q,[],[],rfl,rfl,h1,h2,.nil⟩),k⟩
 | cons a xs =>
  cases rx
  cases ry;obtain ⟨us,r1,i1⟩:=gZ I.hok h1;obtain ⟨vs,r2,i2⟩:=gZ I.hok h2
  cases r2;have hl:=r1.length;exact SeqAt.RcNeAt.lists_lengths i1 i2 (by
   cases us with
   | nil=>cases hl
   | cons b us=>simp) (by omega) X.prog X.w _ _ ⟨.bl true,H,I,rfl,k⟩
end
section
variable {X:Cx}
end
theorem Fj {n m:Nat} {g:TG} {tc:TT} {te:TE} {σ:St} {H:Hp} {Q:VK} (Pv:Nat->List V->Hp->Prop) (h0:Pv 0 [] H) (hl:∀ i ys H,i<=m->Pv i ys H->ys.length < aB)
  (hs:∀ i ys H,i < m->Pv i ys H->g (.int (0 + i)) (cB n none++σ) H fun σ2 H2=>σ2.drop n=σ/\tc σ2 H2 fun b H3=>if b=true then te σ2 H3 fun y H4=>Pv (i + 1) (ys++[y]) H4 else Pv (i + 1) ys H3)
  (hd:∀ ys H,Pv m ys H->∀ p,H p=none->Q (.ref p) (upd H p (.lst ys))) :
  ∃ W:Nat->Nat->List V->Hp->Prop,(∃ k,W 0 k [] H)/\∀ i k ys H,W i k ys H->ys.length < aB/\(((Itr 0 m).stop i H/\∀ p,H p=none->Q (.ref p) (upd H p (.lst ys))) \/
   ((Itr 0 m).go i H/\∃ N:List V->Hp->Prop,(∀ ys' H',N ys' H'->∃ k',k' < k/\W (i + 1) k' ys' H')/\∀ x H',(Itr 0 m).yld i H x H'->g x (cB n none++σ) H' fun σ2 H2=>σ2.drop n=σ/\tc σ2 H2 fun b H3 =>
    if b=true then te σ2 H3 fun y H4=>N (ys++[y]) H4 else N ys H3)):=by
 refine ⟨fun i k ys H=>k=m - i/\i<=m/\Pv i ys H,⟨m,by simp,bT _,h0⟩,?_⟩;rintro i k ys H ⟨rfl,hi,pv'⟩;refine ⟨hl i ys H hi pv',?_⟩
 by_cases lt:i < m
 ·refine .inr ⟨lt,Pv (i + 1),fun ys' H' p'=>⟨m - (i + 1),by omega,rfl,lt,p'⟩,fun x H' y=>?_⟩;obtain ⟨e,y⟩:=y;subst e y;exact hs i ys _ lt pv'
 ·have e:i=m:=by omega
  subst e;exact .inl ⟨aC _,hd ys H pv'⟩
end L2
namespace My
open PySem L2
def top (i:Nat):cV:=PySem.Challenge.pw_momentloom_k41_go_on.main.body.getD i (.Pass ⟨0,0,0,0⟩)
abbrev lF:cV:=eJ (top 3) 0
abbrev mY:cV:=eJ (top 4) 0
abbrev oX:cV:=eJ (top 5) 0
abbrev qy:cV:=eJ (top 6) 0
abbrev oY:cV:=eJ (top 7) 0
abbrev oZ:cV:=eJ (top 8) 0
abbrev lS:cV:=top 15
abbrev mZ:cV:=eJ (top 16) 0
abbrev jd:cV:=eJ (top 17) 0
abbrev iy:cV:=eJ (top 17) 1
abbrev jC:cV:=top 18
abbrev kg:cV:=top 20
abbrev gb:cV:=top 21
abbrev gv:cV:=top 22
abbrev dU:cV:=top 23
abbrev m5:cV:=eJ (top 25) 0
abbrev iV:cV:=eJ (top 25) 1
abbrev eU:cV:=eJ (top 25) 2
abbrev eK:cV:=eJ (top 25) 3
abbrev gy:cV:=eJ (top 25) 4
abbrev xW:cV:=top 26
abbrev m7:cV:=top 27
abbrev gS:cV:=top 28
abbrev kS:cV:=top 29
abbrev ic:cV:=top 30
abbrev lT:cV:=top 31
abbrev lU:cV:=top 32
abbrev lV:cV:=top 33
abbrev lW:cV:=top 34
abbrev lX:cV:=top 35
abbrev m8:cV:=top 37
abbrev qS:cV:=top 38
abbrev o4:cV:=eJ (top 40) 0
abbrev gj:cV:=top 41
abbrev lG:cV:=eJ (top 42) 0
abbrev gC:cV:=eJ (top 42) 1
abbrev eY:cV:=eJ (top 42) 2
abbrev gT:cV:=eJ (top 42) 3
abbrev eV:cV:=top 43
abbrev lY:cV:=top 44
abbrev uj:cV:=top 45
abbrev lH:cV:=eJ (top 47) 0
abbrev je:cV:=eJ (top 47) 1
abbrev ie:cV:=eJ (top 47) 2
abbrev jf:cV:=eJ (top 47) 3
abbrev ig:cV:=eJ (top 47) 4
abbrev fh:cV:=eJ (top 47) 5
abbrev kT:cV:=top 49
abbrev kU:cV:=top 50
abbrev eg:cV:=top 51
abbrev fi:cV:=top 52
abbrev gD:cV:=top 53
abbrev iW:cV:=top 54
abbrev kj:cV:=top 55
abbrev km:cV:=top 56
abbrev m9:cV:=top 57
abbrev jM:cV:=top 58
abbrev gN:cV:=top 59
abbrev ng:cV:=top 60
abbrev jN:cV:=top 61
abbrev kW:cV:=top 62
abbrev jD:cV:=top 63
abbrev Fk:cV:=top 64
structure Df (K:af) (mg:Str->Option ae) (x:Str) (st:cV) (ps:List Str) (f:aa) (fd:bR):Prop where
 F:Fun K x x st f fd
 b:Binds K fd ps []
 m:mg x=some (.ref f)
structure Bl (mg:Str->Option ae):Prop where
 len:mg "len"=none
 abs:mg "abs"=none
 isi:mg "isinstance"=none
 list:mg "list"=none
 tuple:mg "tuple"=none
 str:mg "str"=none
 int:mg "int"=none
 bool:mg "bool"=none
 range:mg "range"=none
 max:mg "max"=none
 dict:mg "dict"=none
theorem boot_abs:eE "abs"=some (.builtin "abs"):=by decide +kernel
theorem jO:eE "isinstance"=some (.builtin "isinstance"):=by decide +kernel
theorem boot_list:eE "list"=some (.type "list"):=by decide +kernel
theorem boot_tuple:eE "tuple"=some (.type "tuple"):=by decide +kernel
theorem boot_int:eE "int"=some (.type "int"):=by decide +kernel
theorem boot_max:eE "max"=some (.builtin "max"):=by decide +kernel
theorem boot_dict:eE "dict"=some (.type "dict"):=by decide +kernel
def But (p:aa) (H H':Hp):Prop:=∀ b o,H b=some o->b≠p->H' b=some o
theorem But.refl (p:aa) (H:Hp):But p H H:=fun _ _ e _=>e
theorem But.trans {p:aa} {H H1 H2:Hp} (a:But p H H1) (b:But p H1 H2):But p H H2:=fun c o e n=>b c o (a c o e n) n
theorem But.upd (p:aa) (H:Hp) (o:HO):But p H (upd H p o):=fun b u e n=>by rw [aH n]; exact e
theorem But.same {p:aa} {H H1 H2:Hp} (a:But p H H1) (b:bf H1 H2):But p H H2:=fun c o e n=>b c o (a c o e n)
theorem aF {H:Hp} {p:aa} (h:H p=none) (o:HO):bf H (upd H p o):=fun b u q=>by rw [aH (av q h)]; exact q
theorem jP {c:Prop} [Decidable c] (h:decide c=true):c:=of_decide_eq_true h
theorem jX {c:Prop} [Decidable c] (h:¬ decide c=true):¬ c:=fun z=>h (decide_eq_true z)
theorem lt2:2<=aB:=by decide
theorem lt5:5<=aB:=by decide
def AD:V->Prop
 | .int _=>True
 | .str _=>True
 | _=>False
def Tree (H:Hp):Nat->V->Prop
 | 0,v=>AD v
 | n + 1,v=>AD v\/∃ p xs,v=.ref p/\(H p=some (.lst xs)\/H p=some (.tup xs))/\xs.length < 1000/\∀ x∈xs,Tree H n x
def Alike (H H':Hp):Nat->V->V->Prop
 | 0,v,v'=>v'=v
 | n + 1,v,v'=>(AD v/\v'=v)\/(∃ p p' xs ys,v=.ref p/\v'=.ref p'/\H p=some (.lst xs)/\H' p'=some (.lst ys)/\aP (Alike H H' n) xs ys) \/
   ∃ p p' xs ys,v=.ref p/\v'=.ref p'/\H p=some (.tup xs)/\H' p'=some (.tup ys)/\aP (Alike H H' n) xs ys
theorem Alike.mono {H H1 H2:Hp} (s:bf H1 H2):∀ {n:Nat} {v v':V},Alike H H1 n v v'->Alike H H2 n v v'
 | 0,_,_,h=>h
 | n + 1,v,v',h=>by
  rcases h with h | ⟨p,p',xs,ys,e1,e2,h1,h2,r⟩ | ⟨p,p',xs,ys,e1,e2,h1,h2,r⟩
  ·exact .inl h
  ·exact .inr (.inl ⟨p,p',xs,ys,e1,e2,h1,s _ _ h2,L2.Paired.imp' (fun _ _ z=>Alike.mono s z) r⟩)
  ·exact .inr (.inr ⟨p,p',xs,ys,e1,e2,h1,s _ _ h2,L2.Paired.imp' (fun _ _ z=>Alike.mono s z) r⟩)
theorem Tree.same {H H1:Hp} (s:bf H H1):∀ {n:Nat} {v:V},Tree H n v->Tree H1 n v
 | 0,_,h=>h
 | n + 1,v,h=>by
  rcases h with h | ⟨p,xs,e,h1,h2,h3⟩
  ·exact .inl h
  ·exact .inr ⟨p,xs,e,h1.imp (s _ _) (s _ _),h2,fun x hx=>Tree.same s (h3 x hx)⟩
theorem Alike.from {H H0 H1:Hp} (s:bf H H0):∀ {n:Nat} {v v':V},Tree H n v->Alike H0 H1 n v v'->Alike H H1 n v v'
 | 0,_,_,_,h=>h
 | n + 1,v,v',t,h=>by
  rcases t with t | ⟨q,zs,e,t1,t2,t3⟩
  ·rcases h with h | ⟨p,p',xs,ys,e1,e2,h1,h2,r⟩ | ⟨p,p',xs,ys,e1,e2,h1,h2,r⟩
   ·exact .inl h
   ·rw [e1] at t;exact t.elim
   ·rw [e1] at t;exact t.elim
  ·rcases h with h | ⟨p,p',xs,ys,e1,e2,h1,h2,r⟩ | ⟨p,p',xs,ys,e1,e2,h1,h2,r⟩
   ·exact .inl h
   ·rw [e] at e1
    cases e1
    rcases t1 with t1 | t1
    ·have z:=s _ _ t1;rw [h1] at z
     cases z;refine .inr (.inl ⟨q,p',zs,ys,e,e2,t1,h2,?_⟩);clear h1 t1 t2 h2
     induction r with
     | nil=>exact .nil
     | cons a b ih=>exact .cons (Alike.from s (t3 _ ax) a) (ih fun x hx=>t3 x (ag _ hx))
    ·have z:=s _ _ t1;rw [h1] at z
     cases z
   ·rw [e] at e1
    cases e1
    rcases t1 with t1 | t1
    ·have z:=s _ _ t1;rw [h1] at z
     cases z
    ·have z:=s _ _ t1;rw [h1] at z
     cases z;refine .inr (.inr ⟨q,p',zs,ys,e,e2,t1,h2,?_⟩);clear h1 t1 t2 h2
     induction r with
     | nil=>exact .nil
     | cons a b ih=>exact .cons (Alike.from s (t3 _ ax) a) (ih fun x hx=>t3 x (ag _ hx))
theorem Fl {K:af}:dP K (.type "int") (.type "list")=some false:=by kernel_rfl
theorem Fn {K:af}:dP K (.type "str") (.type "list")=some false:=by kernel_rfl
theorem Fo {K:af}:dP K (.type "int") (.type "tuple")=some false:=by kernel_rfl
theorem Fp {K:af}:dP K (.type "str") (.type "tuple")=some false:=by kernel_rfl
theorem LH {K:af}:dP K (.type "list") (.type "list")=some true:=by rfl
theorem LI {K:af}:dP K (.type "tuple") (.type "list")=some false:=by kernel_rfl
theorem LJ {K:af}:dP K (.type "tuple") (.type "tuple")=some true:=by rfl
def Nw (H G:Hp):Hp:=fun a=>if H a=none then G a else none
theorem zh {H G:Hp} {a:aa} (n:H a=none):Nw H G a=G a:=if_pos n
theorem nw_le {H G:Hp}:bf (Nw H G) G:=fun a o e=>by
 unfold Nw at e
 by_cases c:H a=none
 ·rw [if_pos c] at e;exact e
 ·rw [if_neg c] at e
  cases e
theorem uk {H G G':Hp} (s:bf G G'):bf (Nw H G) (Nw H G'):=fun a o e=>by
 by_cases c:H a=none
 ·rw [zh c] at e |-;exact s _ _ e
 ·unfold Nw at e;rw [if_neg c] at e
  cases e
theorem Bp {H0 H G:Hp} (d:∀ a,H a=none->H0 a=none):bf (Nw H G) (Nw H0 G):=fun a o e=>by
 by_cases c:H a=none
 ·rw [zh c] at e;rw [zh (d a c)];exact e
 ·unfold Nw at e;rw [if_neg c] at e
  cases e
theorem qT {H G:Hp} (s:bf H G):∀ a,G a=none->H a=none:=fun a n=>by
 cases z:H a with
 | none=>rfl
 | some o =>
  rw [s _ _ z] at n
  cases n
section
variable {P:aJ} {w:bJ} {K:af} {mg:Str->Option ae} {base:cu} {f fC fI CM CS:aa} {fd fdC fdI:bR}
def o5 (n:Nat):Sp:=fun vs H Q _=>∃ v,vs=[v]/\Tree H n v/\∀ (v':V) (H':Hp),bf H H'->Alike H (Nw H H') n v v'->Q v' H'
theorem scC:bK ["thing"] ["thing"] (aL lS):={}
theorem Bq:(["part","thing"]:List Str).Nodup:=by decide +kernel
theorem wY {α β:Type} {R:α->β->Prop} {xs:List α} {ys:List β} {i:Nat} {x:α} {y:β} (r:aP R (xs.take i) ys) (hx:xs[i]?=some x) (h:R x y):aP R (xs.take (i + 1)) (ys++[y]):=by
 have e:xs.take (i + 1)=xs.take i++[x]:=by rw [e9,hx]; rfl
 rw [e];exact eD r h
theorem zi {n:Nat} (D:Df K mg "copied" lS ["thing"] f fd) (B:Bl mg) (G:bA P w K mg base CX0 (n + 1) f fd ["thing"] (o5 n)):bA P w K mg base CX0 (n + 2) f fd ["thing"] (o5 (n + 1)):=by
 refine D.F.ok scC (fun vs H Q E h=>?_) (fun cdv A outer s H vs Q E hr h=>?_)
 ·obtain ⟨v,rfl,_⟩:=h;rfl
 obtain ⟨v,rfl,ht,q⟩:=h;refine ⟨_,aj (cS (mB (cL jL (by rfl) B.isi jO (ao (pv 0) (ao (pF (v:=.ty "list") (by rfl) B.list boot_list rfl) ai))))
   (ay (bM (mU ["part"] (iF.closed (by decide +kernel) (by decide +kernel) rfl (by decide +kernel) (by intro n hn; rcases aD.mp hn with rfl; decide +kernel)) rfl (i0 (pv 0)) (fun _ _ _ _=>dQ (i:=0) Bq rfl (Or.inl rfl)) (fun _ _ _ _=>j0)
    (fun _ _ _ _=>aK G hr rfl D.m D.F.kp D.b .nil bj (ao (pv 0) ai))))) bY)
  (aj (cS (mB (cL jL (by rfl) B.isi jO (ao (pv 0) (ao (pF (v:=.ty "tuple") (by rfl) B.tuple boot_tuple rfl) ai))))
   (ay (bM (gL vR (by rfl) B.tuple boot_tuple (ao (mU ["part"] (iF.closed (by decide +kernel) (by decide +kernel) rfl (by decide +kernel) (by intro n hn; rcases aD.mp hn with rfl; decide +kernel)) rfl (K9 (pv 0)) (fun _ _ _ _=>dQ (i:=0) Bq rfl (Or.inl rfl)) (fun _ _ _ _=>j0)
    (fun _ _ _ _=>aK G hr rfl D.m D.F.kp D.b .nil bj (ao (pv 0) ai))) ai)))) bY)
  (ay (bM (pv 0)))),?_⟩
 have big:1000 < aB:=by decide
 rcases ht with ht | ⟨p,xs,rfl,hp,hl,hx⟩
 ·cases v with
  | int i =>
   refine ⟨_,rfl,_,"list",_,false,rfl,.int i,Fl,_,rfl,fZ ?_⟩;refine ⟨_,rfl,_,"tuple",_,false,rfl,.int i,Fo,_,rfl,fZ ?_⟩;exact ⟨_,rfl,q _ _ (bf.refl H) (.inl ⟨trivial,rfl⟩)⟩
  | str x =>
   refine ⟨_,rfl,_,"list",_,false,rfl,.str x,Fn,_,rfl,fZ ?_⟩;refine ⟨_,rfl,_,"tuple",_,false,rfl,.str x,Fp,_,rfl,fZ ?_⟩;exact ⟨_,rfl,q _ _ (bf.refl H) (.inl ⟨trivial,rfl⟩)⟩
  | non=>exact ht.elim
  | bl b=>exact ht.elim
  | byt b=>exact ht.elim
  | flt b=>exact ht.elim
  | ref a=>exact ht.elim
  | ty a=>exact ht.elim
 ·rcases hp with hp | hp
  ·refine ⟨_,rfl,_,"list",_,true,rfl,.lst hp,LH,_,rfl,iL ?_⟩;refine ⟨_,rfl,p,rfl,⟨_,SqL.of hp⟩,wM (K:=K) (a:=p) (xs:=xs) (fun i ys H1=>i<=xs.length/\ys.length=i/\bf H H1/\aP (Alike H (Nw H H1) n) (xs.take i) ys) ⟨bT _,rfl,bf.refl H,.nil⟩ ?_ ?_ ?_⟩
   ·rintro i ys H1 hi ⟨_,h1,h2,_⟩;exact ⟨SqL.of (h2 _ _ hp),by omega⟩
   ·rintro i x ys H1 hi ⟨h0,h1,h2,h3⟩;have hm:x∈xs:=bV hi;have lt:i < xs.length:=(aE.mp hi).1;refine ⟨rfl,?_⟩;unfold vU;refine iL ?_;refine ⟨_,rfl,x,rfl,Tree.same h2 (hx x hm),fun v' H2 s2 al=>?_⟩;exact ⟨lt,by rw [aA,h1]; rfl,h2.trans s2,wY (L2.Paired.imp' (fun _ _ z=>Alike.mono (uk s2) z) h3) hi (Alike.mono (Bp (qT h2)) (Alike.from h2 (hx x hm) al))⟩
   ·rintro ys H1 ⟨_,h1,h2,h3⟩ l hl';rw [dZ] at h3;refine q _ _ (h2.trans (aF hl' _)) (.inr (.inl ⟨p,l,xs,ys,rfl,rfl,hp,(by rw [zh (qT h2 _ hl')]; exact ah),L2.Paired.imp' (fun _ _ z=>Alike.mono (uk (aF hl' _)) z) h3⟩))
  ·refine ⟨_,rfl,_,"list",_,false,rfl,.tup hp,LI,_,rfl,fZ ?_⟩;refine ⟨_,rfl,_,"tuple",_,true,rfl,.tup hp,LJ,_,rfl,iL ?_⟩;refine ⟨_,rfl,p,rfl,⟨_,SqT.of hp⟩,ES (K:=K) (a:=p) (xs:=xs) (Q:=fun v H1=>∃ z ys,[v]=[V.ref z]/\((SqL K H1 z ys/\∀ l,H1 l=none->Q (.ref l) (upd H1 l (.tup ys)))\/(SqT K H1 z ys/\Q (.ref z) H1))) (fun i ys H1=>i<=xs.length/\ys.length=i/\bf H H1/\aP (Alike H (Nw H H1) n) (xs.take i) ys) ⟨bT _,rfl,bf.refl H,.nil⟩ ?_ ?_ ?_⟩
   ·rintro i ys H1 hi ⟨_,h1,h2,_⟩;exact ⟨SqT.of (h2 _ _ hp),by omega⟩
   ·rintro i x ys H1 hi ⟨h0,h1,h2,h3⟩;have hm:x∈xs:=bV hi;have lt:i < xs.length:=(aE.mp hi).1;refine ⟨rfl,?_⟩;unfold vU;refine iL ?_;refine ⟨_,rfl,x,rfl,Tree.same h2 (hx x hm),fun v' H2 s2 al=>?_⟩;exact ⟨lt,by rw [aA,h1]; rfl,h2.trans s2,wY (L2.Paired.imp' (fun _ _ z=>Alike.mono (uk s2) z) h3) hi (Alike.mono (Bp (qT h2)) (Alike.from h2 (hx x hm) al))⟩
   ·rintro ys H1 ⟨_,h1,h2,h3⟩ l hl';rw [dZ] at h3;refine ⟨l,ys,rfl,.inl ⟨SqL.of ah,fun t ht=>?_⟩⟩;have s3:bf H1 (upd (upd H1 l (.lst ys)) t (.tup ys)):=(aF hl' _).trans (aF ht _);exact q _ _ (h2.trans s3) (.inr (.inr ⟨p,t,xs,ys,rfl,rfl,hp,(by rw [zh (qT (h2.trans (aF hl' (.lst ys))) _ ht)]; exact ah),L2.Paired.imp' (fun _ _ z=>Alike.mono (uk s3) z) h3⟩))
theorem zj (D:Df K mg "copied" lS ["thing"] f fd) (B:Bl mg):bA P w K mg base CX0 1 f fd ["thing"] (o5 0):=by
 refine D.F.ok scC (fun vs H Q E h=>?_) (fun cdv A outer s H vs Q E hr h=>?_)
 ·obtain ⟨v,rfl,_⟩:=h;rfl
 obtain ⟨v,rfl,ht,q⟩:=h;refine ⟨_,aj (cS (mB (cL jL (by rfl) B.isi jO (ao (pv 0) (ao (pF (v:=.ty "list") (by rfl) B.list boot_list rfl) ai)))) wy bY)
  (aj (cS (mB (cL jL (by rfl) B.isi jO (ao (pv 0) (ao (pF (v:=.ty "tuple") (by rfl) B.tuple boot_tuple rfl) ai)))) wy bY)
  (ay (bM (pv 0)))),?_⟩
 have ht:AD v:=ht
 cases v with
 | int i =>
  refine ⟨_,rfl,_,"list",_,false,rfl,.int i,Fl,_,rfl,fZ ?_⟩;refine ⟨_,rfl,_,"tuple",_,false,rfl,.int i,Fo,_,rfl,fZ ?_⟩;exact ⟨_,rfl,q _ _ (bf.refl H) rfl⟩
 | str x =>
  refine ⟨_,rfl,_,"list",_,false,rfl,.str x,Fn,_,rfl,fZ ?_⟩;refine ⟨_,rfl,_,"tuple",_,false,rfl,.str x,Fp,_,rfl,fZ ?_⟩;exact ⟨_,rfl,q _ _ (bf.refl H) rfl⟩
 | non=>exact ht.elim
 | bl b=>exact ht.elim
 | byt b=>exact ht.elim
 | flt b=>exact ht.elim
 | ref a=>exact ht.elim
 | ty a=>exact ht.elim
theorem wZ (D:Df K mg "copied" lS ["thing"] f fd) (B:Bl mg):∀ n:Nat,bA P w K mg base CX0 (n + 1) f fd ["thing"] (o5 n)
 | 0=>zj D B
 | n + 1=>zi D B (wZ D B n)
structure MdT (K:af) (mg:Str->Option ae) (CM CS:aa):Prop where
 clM:Cls K CM
 clS:Cls K CS
 nM:d8 K CM "machines"
 nB:d8 K CS "boxes"
 nQ:d8 K CS "queues"
 nD:d8 K CS "drawn"
 nS:d8 K CS "sent"
 mM:mg "Model"=some (.ref CM)
 mS:mg "State"=some (.ref CS)
inductive J2 (CM:aa) (n:Nat) (vs:List V) (H:Hp) (Q:VK) (_e:XK):Prop where
 | mk (m dx:aa) (v:V) (_:vs=[.ref m,v]) (_:H m=some (.ins CM dx [])) (_:Tree H n v) (_:∀ (v':V) (H':Hp),bf H H'->Alike H (Nw H H') n v v'->Q .non (upd H' m (.ins CM dx (cD "machines" v' [])))):J2 CM n vs H Q _e
def LK (CM:aa) (n:Nat):Sp:=fun vs H Q _e=>J2 CM n vs H Q _e
theorem scMI:bK ["self","machines"] ["self","machines"] (aL mZ):={}
theorem J3 {n:Nat} (F:Fun K "__init__" "Model.__init__" mZ f fd) (DC:Df K mg "copied" lS ["thing"] fC fdC) (B:Bl mg) (T:MdT K mg CM CS):bA P w K mg base CX0 (n + 2) f fd ["self","machines"] (LK CM n):=by
 have GC:bA P w K mg base CX0 (n + 1) fC fdC ["thing"] (o5 n):=wZ DC B n;refine F.ok scMI (fun vs H Q E h=>?_) (fun cdv A outer s H vs Q E hr h=>?_)
 ·obtain ⟨m,dx,v,rfl,_⟩:=h;rfl
 obtain ⟨m,dx,v,rfl,hm,ht,q⟩:=h;refine ⟨_,ay (d9 (pv 0) (aK GC hr rfl DC.m DC.F.kp DC.b .nil bj (ao (pv 1) ai)) rfl),?_⟩;refine ⟨_,rfl,v,rfl,ht,fun v' H' s1 al=>?_⟩;exact ⟨_,rfl,m,CM,dx,[],rfl,s1 _ _ hm,T.clM,T.nM,(by show 0 < 1000; decide),q v' H' s1 al⟩
def nj (b q d e:V):List (Str×V):=cD "sent" e (cD "drawn" d (cD "queues" q (cD "boxes" b [])))
inductive J4 (CS:aa) (vs:List V) (H:Hp) (Q:VK) (_e:XK):Prop where
 | mk (m dx:aa) (b q d e:V) (_:vs=[.ref m,b,q,d,e]) (_:H m=some (.ins CS dx [])) (_:∀ H':Hp,H' m=some (.ins CS dx (nj b q d e))->But m H H'->Q .non H'):J4 CS vs H Q _e
def LL (CS:aa):Sp:=fun vs H Q _e=>J4 CS vs H Q _e
theorem scSI:bK ["self","boxes","queues","drawn","sent"] ["self","boxes","queues","drawn","sent"] (aL jd):={}
theorem gH (f:Str) (v:V) (fs:List (Str×V)):(cD f v fs).length<=fs.length + 1:=by
 induction fs with
 | nil=>exact aC _
 | cons p r ih =>
  unfold cD
  split
  ·rw [aT,aT];omega
  ·rw [aT,aT];omega
theorem J6 (F:Fun K "__init__" "State.__init__" jd f fd) (T:MdT K mg CM CS):bA P w K mg base CX0 1 f fd ["self","boxes","queues","drawn","sent"] (LL CS):=by
 refine F.ok scSI (fun vs H Q E h=>?_) (fun cdv A outer s H vs Q E hr h=>?_)
 ·obtain ⟨m,dx,b,q,d,e,rfl,_⟩:=h;rfl
 obtain ⟨m,dx,b,q,d,e,rfl,hm,k⟩:=h;refine ⟨_,aj (d9 (pv 0) (pv 1) rfl) (aj (d9 (pv 0) (pv 2) rfl) (aj (d9 (pv 0) (pv 3) rfl) (ay (d9 (pv 0) (pv 4) rfl)))),?_⟩;have l1:=gH "boxes" b [];have l2:=gH "queues" q (cD "boxes" b []);have l3:=gH "drawn" d (cD "queues" q (cD "boxes" b []));simp only [cK] at l1;refine ⟨_,rfl,_,rfl,m,CS,dx,[],rfl,hm,T.clS,T.nB,(by show 0 < 1000; decide),_,rfl,_,rfl,m,CS,dx,_,rfl,ah,T.clS,T.nQ,(by omega),_,rfl,_,rfl,m,CS,dx,_,rfl,ah,T.clS,T.nD,(by omega),_,rfl,_,rfl,m,CS,dx,_,rfl,ah,T.clS,T.nS,(by omega),?_⟩;exact k _ ah (((But.upd m H _).trans (But.upd m _ _)).trans ((But.upd m _ _).trans (But.upd m _ _)))
inductive Fq (CM:aa) (vs:List V) (H:Hp) (Q:VK) (_e:XK):Prop where
 | mk (m dx l t b q:aa) (fs:List (Str×V)) (n0 x3 x4:V) (_:vs=[.ref m,.int 0]) (_:H m=some (.ins CM dx fs)) (_:fs.lookup ("machines":Str)=some (V.ref l)) (_:H l=some (.lst [.ref t])) (_:H t=some (.tup [n0,.ref b,.ref q,x3,x4])) (_:H b=some (.lst [])) (_:H q=some (.lst [])) (_:∀ (st:aa) (H':Hp),bf H H'->Q (.ref st) H'):Fq CM vs H Q _e
theorem II:bK ["model","at","machine","queues","name"] ["model","at"] (aL jC):={}
end
section
variable {κ:Type} [DecidableEq κ]
abbrev qg (ps:List (κ×V)) (m:List (κ×V)):List (κ×V):=ps.foldl (fun m p=>iE m p.1 p.2) m
end
theorem lZ {H H':Hp} {n:Nat} {a:aa} {xs:List V} {y:V} (ha:H a=some (.lst xs)) (z:Alike H H' (n + 1) (.ref a) y):∃ (a':aa) (ys:List V),y=.ref a'/\H' a'=some (.lst ys)/\aP (Alike H H' n) xs ys:=by
 rcases z with ⟨z,_⟩ | ⟨p,p',xs',ys,e1,e2,h1,h2,r⟩ | ⟨p,p',xs',ys,e1,e2,h1,h2,r⟩
 ·exact z.elim
 ·cases e1;rw [ha] at h1
  cases h1;exact ⟨p',ys,e2,h2,r⟩
 ·cases e1;rw [ha] at h1
  cases h1
theorem rY {H H':Hp} {n:Nat} {a:aa} {xs:List V} {y:V} (ha:H a=some (.tup xs)) (z:Alike H H' (n + 1) (.ref a) y):∃ (a':aa) (ys:List V),y=.ref a'/\H' a'=some (.tup ys)/\aP (Alike H H' n) xs ys:=by
 rcases z with ⟨z,_⟩ | ⟨p,p',xs',ys,e1,e2,h1,h2,r⟩ | ⟨p,p',xs',ys,e1,e2,h1,h2,r⟩
 ·exact z.elim
 ·cases e1;rw [ha] at h1
  cases h1
 ·cases e1;rw [ha] at h1
  cases h1;exact ⟨p',ys,e2,h2,r⟩
theorem eW {H H':Hp} {n:Nat} {v y:V} (hv:AD v) (z:Alike H H' n v y):y=v:=by
 cases n with
 | zero=>exact z
 | succ n =>
  rcases z with ⟨_,z⟩ | ⟨p,p',xs',ys,e1,e2,h1,h2,r⟩ | ⟨p,p',xs',ys,e1,e2,h1,h2,r⟩
  ·exact z
  ·rw [e1] at hv;exact hv.elim
  ·rw [e1] at hv;exact hv.elim
theorem iz {H H':Hp} {n:Nat} {xs ys:List V} (r:aP (Alike H H' n) xs ys):(∀ x∈xs,AD x)->ys=xs:=by
 induction r with
 | nil=>exact fun _=>rfl
 | cons a b ih =>
  intro h;rw [eW (h _ ax) a,ih fun x hx=>h x (ag _ hx)]
def gz (H:Hp) (ps:List (Str×Int)) (vs:List V):Prop:=t8 H (ps.map fun p=>(Sum.inr p.1,V.int p.2)) vs
theorem gz.same {H H':Hp} (s:bf H H'):∀ {ps:List (Str×Int)} {vs:List V},gz H ps vs->gz H' ps vs
 | [],_,h=>by
  cases h;exact .nil
 | p :: ps,_,h=>by
  cases h with
  | cons a b =>
   obtain ⟨t,e,h⟩:=a;exact .cons ⟨t,e,s _ _ h⟩ (gz.same s (ps:=ps) b)
theorem gz.alike {H H':Hp} {n:Nat}:∀ {ps:List (Str×Int)} {vs ys:List V},gz H ps vs->aP (Alike H H' (n + 1)) vs ys->gz H' ps ys
 | [],_,_,h,r=>by
  cases h
  cases r;exact .nil
 | p :: ps,_,_,h,r=>by
  cases h with
  | cons a b =>
   cases r with
   | cons r1 r2 =>
    obtain ⟨t,rfl,h⟩:=a;obtain ⟨t',ys,rfl,h',rr⟩:=rY h r1;have e:=iz rr (fun x hx=>by
     simp only [au,aS,or_false] at hx
     rcases hx with rfl | rfl
     ·exact trivial
     ·exact trivial)
    rw [e] at h';exact .cons ⟨t',rfl,h'⟩ (gz.alike (ps:=ps) b r2)
theorem gz.length {H:Hp} {ps:List (Str×Int)} {vs:List V} (h:gz H ps vs):ps.length=vs.length:=by
 have z:=aZ h;rw [ar] at z;exact z
theorem gz.tree {H:Hp} {n:Nat}:∀ {ps:List (Str×Int)} {vs:List V},gz H ps vs->∀ x∈vs,Tree H (n + 1) x
 | [],_,h,x,hx=>by
  cases h
  cases hx
 | p :: ps,_,h,x,hx=>by
  cases h with
  | cons a b =>
   rcases au.mp hx with rfl | hx
   ·obtain ⟨t,rfl,h⟩:=a;refine .inr ⟨t,_,rfl,.inr h,(by show 2 < 1000; decide),fun y hy=>?_⟩;simp only [au,aS,or_false] at hy
    rcases hy with rfl | rfl
    ·cases n <;> first | exact trivial | exact .inl trivial
    ·cases n <;> first | exact trivial | exact .inl trivial
   ·exact gz.tree (ps:=ps) b x hx
section
variable {P:aJ} {w:bJ} {K:af} {mg:Str->Option ae} {base:cu} {f fI CM CS:aa} {fd fdI:bR}
abbrev LM (ps:List (Str×Int)):List (Key×V):=qg (ps.map fun p=>((Sum.inr p.1:Key),V.int p.2)) []
abbrev quT (qs:List Str) (ls:List aa):List (Key×V):=qg ((qs.zip ls).map fun p=>((Sum.inr p.1:Key),V.ref p.2)) []
structure New (H H':Hp) (CS st:aa) (ps:List (Str×Int)) (qs:List Str) (dx bd qd:aa) (ls:List aa):Prop where
 hst:H' st=some (.ins CS dx (nj (.ref bd) (.ref qd) (.int 0) (.int 0)))
 hbd:H' bd=some (.dK (LM ps))
 hqd:H' qd=some (.dK (quT qs ls))
 len:ls.length=qs.length
 nd:ls.Nodup
 li:∀ l∈ls,H l=none/\H' l=some (.lst [])
 ost:H st=none
 obd:H bd=none
 oqd:H qd=none
 ne:qd≠bd
 same:bf H H'
inductive w5 (CM CS:aa) (vs:List V) (H:Hp) (Q:VK) (_e:XK):Prop where
 | mk (m dx l t b q:aa) (fs:List (Str×V)) (n0 x3 x4:V) (i:Nat) (ms vb:List V) (ps:List (Str×Int)) (qs:List Str) (_:vs=[.ref m,.int (i:Int)]) (_:H m=some (.ins CM dx fs)) (_:fs.lookup ("machines":Str)=some (V.ref l)) (_:H l=some (.lst ms)) (_:ms[i]?=some (.ref t)) (_:H t=some (.tup [n0,.ref b,.ref q,x3,x4])) (_:H b=some (.lst vb)) (_:gz H ps vb) (_:ps.length<=100) (_:H q=some (.lst (qs.map V.str))) (_:qs.length<=100) (_:∀ (st dx bd qd:aa) (ls:List aa) (H':Hp),New H H' CS st ps qs dx bd qd ls->Q (.ref st) H'):w5 CM CS vs H Q _e
def zk (CM CS:aa):Sp:=fun vs H Q _e=>w5 CM CS vs H Q _e
theorem Fs {α β:Type} {xs:List α} {ys:List β} {i:Nat} {x:α} {y:β} (hl:ys.length=i) (hx:xs[i]?=some x):(xs.take (i + 1)).zip (ys++[y])=(xs.take i).zip ys++[(x,y)]:=by
 have lt:i < xs.length:=(aE.mp hx).1;have e:xs.take (i + 1)=xs.take i++[x]:=by rw [e9,hx]; rfl
 rw [e,List.zip_append (by rw [df,hl]; omega)];rfl
theorem rZ (D:Df K mg "first_state" jC ["model","at"] f fd) (MS:Mk K CS fI) (FI:Fun K "__init__" "State.__init__" jd fI fdI) (bI:Binds K fdI ["self","boxes","queues","drawn","sent"] []) (B:Bl mg) (T:MdT K mg CM CS) :
  bA P w K mg base CX0 3 f fd ["model","at"] (zk CM CS):=by
 have GI:bA P w K mg base CX0 1 fI fdI ["self","boxes","queues","drawn","sent"] (LL CS):=J6 FI T;refine D.F.ok II (fun vs H Q E h=>?_) (fun cdv A outer s H vs Q E hr h=>?_)
 ·obtain ⟨m,dx,l,t,b,q,fs,n0,x3,x4,i,ms,vb,ps,qs,rfl,_⟩:=h;rfl
 obtain ⟨m,dx,l,t,b,q,fs,n0,x3,x4,i,ms,vb,ps,qs,rfl,hm,hfs,hl,hi,ht,hb,hps,lps,hq,lqs,k⟩:=h;have hu:=kQ hr;refine ⟨_,aj (bC (i:=2) II.nd rfl (Or.inl rfl) (bU dI (cO (pv 0) rfl) (pv 1) (fun _ _=>rfl)))
  (aj (bC (i:=3) II.nd rfl (Or.inl rfl) oO)
  (aj (i5 cR rfl (i0 (bU cz (pv 2) aw (fun _ _=>rfl))) (dQ (i:=4) II.nd rfl (Or.inl rfl)) (ay (jZ hu (pv 3) (pv 4) (eS ai) rfl)))
  (ay (bM (jA MS GI hr (by rfl) T.mS bI .nil bj (ao (gL (Aq rfl) (by rfl) B.dict boot_dict (ao (bU cz (pv 2) aw (fun _ _=>rfl)) ai)) (ao (pv 3) (ao aw (ao aw ai))))))))),?_⟩
 refine ⟨_,rfl,m,CM,dx,_,_,rfl,hm,T.clM,T.nM,hfs,_,rfl,l,_,_,_,rfl,rfl,SqL.of hl,jB hi,?_⟩;intro d hd;have s1:bf H (upd H d (.dK [])):=aF hd _;have big:1000 < aB:=by decide
 have a2:atI [n0,V.ref b,V.ref q,x3,x4] 2=some (V.ref q):=rfl;have a1:atI [n0,V.ref b,V.ref q,x3,x4] 1=some (V.ref b):=rfl;refine ⟨_,rfl,t,_,_,_,rfl,rfl,SqT.of (s1 _ _ ht),a2,q,rfl,⟨_,SqL.of (s1 _ _ hq)⟩,jG (K:=K) (a:=q) (xs:=qs.map V.str) (fun j σ G=>∃ (v4:Option V) (ls:List aa),σ=[some (.ref m),some (.int (i:Int)),some (.ref t),some (.ref d),v4]/\j<=qs.length/\G d=some (.dK (quT (qs.take j) ls))/\ls.length=j/\ls.Nodup/\(∀ z∈ls,H z=none/\G z=some (.lst []))/\bf H G)
  ⟨none,[],rfl,bT _,ah,rfl,iC,(fun z hz=>by cases hz),s1⟩ ?_ ?_ ?_⟩
 ·rintro j σ G _ ⟨v4,ls,rfl,_,_,_,_,_,sm⟩;exact SqL.of (sm _ _ hq)
 ·rintro j x σ G hj ⟨v4,ls,rfl,jl,hG,ll,nd,li,sm⟩;obtain ⟨nm,hnm,rfl⟩:∃ nm,qs[j]?=some nm/\x=V.str nm:=by
   rw [cI] at hj
   cases e:qs[j]? with
   | none=>rw [e] at hj; cases hj
   | some nm=>rw [e] at hj; cases hj; exact ⟨nm,rfl,rfl⟩
  have jlt:j < qs.length:=(aE.mp hnm).1;refine ⟨bT _,fun z hz=>?_⟩;have nzd:d≠z:=av hG hz;have hG':upd G z (.lst []) d=some (.dK (quT (qs.take j) ls)):=by rw [aH nzd]; exact hG
  have lt:(quT (qs.take j) ls).length < aB:=by
   have q1:=za ((((qs.take j).zip ls).map fun p=>((Sum.inr p.1:Key),V.ref p.2))) [];rw [ar,o6,df] at q1;simp only [cK] at q1;exact jc q1 (by omega)
  refine ⟨_,rfl,_,rfl,d,_,rfl,qO.k (k:=Sum.inr nm) hG' lt,?_⟩;have fz:H z=none:=sm.free hz;have nin:z∉ls:=fun c=>by
   have q1:=(li z c).2;rw [hz] at q1
   cases q1
  refine ⟨_,ls++[z],rfl,jlt,?_,by rw [aA,ll]; rfl,xI nd nin,fun y hy=>?_,?_⟩
  ·show upd _ d _ d=_;rw [ah];show some (HO.dK (iE (quT (qs.take j) ls) (Sum.inr nm) (.ref z)))=some (HO.dK (quT (qs.take (j + 1)) (ls++[z])));unfold quT;rw [Fs ll hnm,cg];unfold qg;rw [Ft];rfl
  ·rcases cq.mp hy with c | c
   ·obtain ⟨c1,c2⟩:=li y c;refine ⟨c1,?_⟩;rw [aH (nF c2 hG (by intro e; cases e)),aH (av c2 hz)];exact c2
   ·rw [aD.mp c];refine ⟨fz,?_⟩;rw [aH nzd.symm];exact ah
  ·intro c o hc;have c2:=sm _ _ hc;have cd:c≠d:=av hc hd;rw [aH cd,aH (av c2 hz)];exact c2
 ·rintro σ G ⟨v4,ls,rfl,jl,hG,ll,nd,li,sm⟩;rw [ar] at ll hG;rw [dZ] at hG;refine ⟨_,rfl,t,_,_,_,rfl,rfl,SqT.of (sm _ _ ht),a1,b,vb,_,rfl,sm _ _ hb,gz.same sm hps,by rw [ar]; omega,fun e he=>?_⟩;have s2:bf G (upd G e (.dK (LM ps))):=aF he _;refine ⟨_,rfl,?_⟩;intro x dx' nx ndx nex;refine ⟨x,dx',_,_,_,_,rfl,ah,fun H' hx bt=>⟨rfl,k x dx' e d ls H' ?_⟩⟩;have up:∀ {c:aa} {o:HO},upd G e (.dK (LM ps)) c=some o->H' c=some o:=fun {c o} hc=>by
   have cx:c≠x:=av hc nx;refine bt c o ?_ cx;rw [aH cx,aH (av hc ndx)];exact hc
  exact ⟨hx,up ah,up (s2 _ _ hG),ll,nd,fun z hz=>⟨(li z hz).1,up (s2 _ _ (li z hz).2)⟩,sm.free (s2.free nx),sm.free he,hd,av hG he,fun c o hc=>up (s2 _ _ (sm _ _ hc))⟩
end
section
variable {κ:Type} [DecidableEq κ]
theorem AE:∀ (ps m:List (κ×V)),((m++ps).map (·.1)).Nodup->qg ps m=m++ps
 | [],m,_=>by simp [qg]
 | p :: r,m,h=>by
  have nk:jn m p.1=none:=by
   cases e:jn m p.1 with
   | none=>rfl
   | some v =>
    exfalso;rw [cg,bQ] at h;exact (gF.mp h).2.2 p.1 (Be e) p.1 ax rfl
  show qg r (iE m p.1 p.2)=_;rw [yP p.2 nk,AE r (m++[(p.1,p.2)]) (by rw [jr]; exact h),jr];rfl
end
theorem gz.tups {H H':Hp} (s:∀ t xs,H t=some (.tup xs)->H' t=some (.tup xs)):∀ {ps:List (Str×Int)} {vs:List V},gz H ps vs->gz H' ps vs
 | [],_,h=>by
  cases h;exact .nil
 | p :: ps,_,h=>by
  cases h with
  | cons a b =>
   obtain ⟨t,e,h⟩:=a;exact .cons ⟨t,e,s _ _ h⟩ (gz.tups s (ps:=ps) b)
def Br:List Str:=["plus","less","times","part","rest","below","same"]
inductive Fm where
 | num (n:Int)
 | box (x:Str)
 | long (x:Str)
 | got (j:Bool)
 | now
 | two (k:Str) (f g:Fm)
def Fm.depth:Fm->Nat
 | .two _ f g=>max f.depth g.depth + 1
 | _=>1
inductive Rs where
 | ok (r:Int)
 | nought
 | great
def zl (k:Str) (a b:Int):Rs:=
 if k="plus" then .ok (a + b) else if k="less" then .ok (a - b) else if k="times" then .ok (a * b) else if k="below" then .ok (if a < b then 1 else 0)
 else if k="same" then .ok (if a=b then 1 else 0) else if b=0 then .nought else if k="part" then .ok (a.fdiv b) else .ok (a.fmod b)
def qU (r:Int):Int:=if r < 0 then -r else r
def cap:Rs->Rs
 | .ok r=>if 10 ^ 15 < qU r then .great else .ok r
 | .nought=>.nought
 | .great=>.great
structure xX where
 bx:Str->Int
 lg:Str->Nat
 g0:Int
 g1:Int
 nw:Int
def ev (e:xX):Fm->Rs
 | .num n=>.ok n
 | .box x=>.ok (e.bx x)
 | .long x=>.ok (e.lg x)
 | .got j=>.ok (if j then e.g1 else e.g0)
 | .now=>.ok e.nw
 | .two k f g=>match ev e f with
  | .ok a=>(match ev e g with
   | .ok b=>cap (zl k a b)
   | .nought=>.nought
   | .great=>.great)
  | .nought=>.nought
  | .great=>.great
def Wo (a:Int):Prop:=-(10 ^ 15)<=a/\a<=10 ^ 15
structure xX.Ok (e:xX) (bs qs:List Str):Prop where
 bx:∀ x∈bs,Wo (e.bx x)
 lg:∀ x∈qs,e.lg x<=1000
 g0:Wo e.g0
 g1:Wo e.g1
 nw:Wo e.nw
inductive iZ (bs qs:List Str) (H:Hp):V->Fm->Prop where
 | num {t:aa} {n:Int}:H t=some (.tup [.str "number",.int n])->Wo n->iZ bs qs H (.ref t) (.num n)
 | box {t:aa} {x:Str}:H t=some (.tup [.str "box",.str x])->x∈bs->iZ bs qs H (.ref t) (.box x)
 | long {t:aa} {x:Str}:H t=some (.tup [.str "long",.str x])->x∈qs->iZ bs qs H (.ref t) (.long x)
 | got {t:aa} {j:Bool}:H t=some (.tup [.str "got",.int (if j then 1 else 0)])->iZ bs qs H (.ref t) (.got j)
 | now {t:aa}:H t=some (.tup [.str "now"])->iZ bs qs H (.ref t) .now
 | two {t:aa} {k:Str} {u v:V} {f g:Fm}:H t=some (.tup [.str k,u,v])->k∈Br->iZ bs qs H u f->iZ bs qs H v g->iZ bs qs H (.ref t) (.two k f g)
theorem iZ.mono {bs qs:List Str} {H H':Hp} {v:V} {f:Fm} (h:iZ bs qs H v f) (s:∀ t xs,H t=some (.tup xs)->H' t=some (.tup xs)):iZ bs qs H' v f:=by
 induction h with
 | num h1 h2=>exact .num (s _ _ h1) h2
 | box h1 h2=>exact .box (s _ _ h1) h2
 | long h1 h2=>exact .long (s _ _ h1) h2
 | got h1=>exact .got (s _ _ h1)
 | now h1=>exact .now (s _ _ h1)
 | two h1 h2 _ _ i1 i2=>exact .two (s _ _ h1) h2 i1 i2
theorem iZ.same {bs qs:List Str} {H H':Hp} {v:V} {f:Fm} (h:iZ bs qs H v f) (s:bf H H'):iZ bs qs H' v f:=h.mono fun _ _ e=>s _ _ e
theorem Fu {r:Int} (h:¬ 10 ^ 15 < qU r):Wo r:=by
 unfold qU at h;unfold Wo
 split at h <;> omega
theorem Fv {r:Int} (h:Wo r):¬ 10 ^ 15 < qU r:=by
 unfold Wo at h;unfold qU
 split <;> omega
theorem LN {x:Rs} {r:Int} (h:cap x=.ok r):Wo r:=by
 cases x with
 | ok y =>
  unfold cap at h;dsimp only at h
  by_cases c:10 ^ 15 < qU y
  ·rw [if_pos c] at h
   cases h
  ·rw [if_neg c] at h
   cases h;exact Fu c
 | nought=>cases h
 | great=>cases h
theorem lg_wo {n:Nat} (h:n<=1000):Wo (n:Int):=by
 unfold Wo;omega
theorem tD {bs qs:List Str} {H:Hp} {e:xX} (ok:e.Ok bs qs) {v:V} {f:Fm} (h:iZ bs qs H v f):∀ {r:Int},ev e f=.ok r->Wo r:=by
 induction h with
 | num h1 h2 =>
  intro r q;unfold ev at q
  cases q;exact h2
 | box h1 h2 =>
  intro r q;unfold ev at q
  cases q;exact ok.bx _ h2
 | long h1 h2 =>
  intro r q;unfold ev at q
  cases q;exact lg_wo (ok.lg _ h2)
 | @got t j h1 =>
  intro r q;unfold ev at q
  cases q
  cases j
  ·exact ok.g0
  ·exact ok.g1
 | now h1 =>
  intro r q;unfold ev at q
  cases q;exact ok.nw
 | @two t k u v f g h1 h2 _ _ i1 i2 =>
  intro r q;unfold ev at q
  cases e1:ev e f with
  | ok a =>
   rw [e1] at q
   cases e2:ev e g with
   | ok b =>
    rw [e2] at q;exact LN q
   | nought=>rw [e2] at q; cases q
   | great=>rw [e2] at q; cases q
  | nought=>rw [e1] at q; cases q
  | great=>rw [e1] at q; cases q
def w6 (CN CG:aa) (r:Rs) (Q:VK) (E:XK) (H:Hp):Prop:=match r with
 | .ok r=>Q (.int r) H
 | .nought=>E (.ref CN) none H
 | .great=>E (.ref CG) none H
section
variable {P:aJ} {w:bJ} {K:af} {mg:Str->Option ae} {base:cu} {f fD fT fL CN CG CM CS:aa} {fd fdD fdT fdL:bR}
structure Fts (K:af) (mg:Str->Option ae) (CN CG:aa):Prop where
 mN:mg "Nought"=some (.ref CN)
 mG:mg "Great"=some (.ref CG)
 xN:cY K CN oQ "ValueError.__new__"=true
 xG:cY K CG oQ "ValueError.__new__"=true
 nn:cN K (.ref CN) (.ref CN)=some true
 gn:cN K (.ref CG) (.ref CN)=some false
 gg:cN K (.ref CG) (.ref CG)=some true
inductive Fw (CN:aa) (vs:List V) (H:Hp) (Q:VK) (E:XK):Prop where
 | mk (k:Str) (a b:Int) (_:vs=[.str k,.int a,.int b]) (_:Wo b) (_:(b=0->E (.ref CN) none H)) (_:(¬ b=0->k="part"->Q (.int (a.fdiv b)) H)) (_:(¬ b=0->¬ k="part"->Q (.int (a.fmod b)) H)):Fw CN vs H Q E
def Kb (CN:aa):Sp:=fun vs H Q E=>Fw CN vs H Q E
theorem scDv:bK ["kind","first","second"] ["kind","first","second"] (aL dU):={}
theorem xY {a b:Int} (h:V.int a=V.int b):a=b:=V.int.inj h
theorem r9 {a b:Str} (h:V.str a=V.str b):a=b:=V.str.inj h
theorem LO (D:Df K mg "number_of_division" dU ["kind","first","second"] f fd) (T:Fts K mg CN CG):bA P w K mg base (CXo P w) 1 f fd ["kind","first","second"] (Kb CN):=by
 refine D.F.okX scDv (fun vs H Q E h=>?_) (fun cdv A outer s H vs Q E hr h=>?_)
 ·obtain ⟨k,a,b,rfl,_⟩:=h;rfl
 obtain ⟨k,a,b,rfl,hb,h1,h2,h3⟩:=h;refine ⟨_,aj (cS (bP e7 (pv 2) aw (cb _)) (ay (jK dJ rfl rfl T.mN T.xN (ao bX ai))) bY)
  (aj (cS (bP e7 (pv 0) bX (cb _)) (ay (bM (cT EU (pv 1) (pv 2)))) bY)
  (ay (bM (cT HP (pv 1) (pv 2))))),?_⟩
 refine ⟨_,rfl,rfl,_,rfl,?_⟩;refine fV (fun c=>?_) (fun c=>?_)
 ·exact ⟨(by show 1<=aB; decide),h1 (xY (jP c))⟩
 ·have nb:¬ b=0:=fun z=>jX c (by rw [z]);refine ⟨_,rfl,rfl,_,rfl,?_⟩;refine fV (fun c2=>?_) (fun c2=>?_)
  ·refine ⟨_,rfl,_,rfl,_,_,rfl,rfl,⟨nb,?_⟩,h2 nb (r9 (jP c2))⟩;unfold Wo at hb;omega
  ·exact ⟨_,rfl,_,rfl,_,_,rfl,rfl,nb,h3 nb (fun z=>jX c2 (by rw [z]))⟩
inductive Fx (CN CG:aa) (vs:List V) (H:Hp) (Q:VK) (E:XK):Prop where
 | mk (k:Str) (a b:Int) (_:vs=[.str k,.int a,.int b]) (_:Wo a) (_:Wo b) (_:w6 CN CG (zl k a b) Q E H):Fx CN CG vs H Q E
def Kc (CN CG:aa):Sp:=fun vs H Q E=>Fx CN CG vs H Q E
theorem scTw:bK ["kind","first","second"] ["kind","first","second"] (aL gv):={}
theorem LP (D:Df K mg "number_of_two" gv ["kind","first","second"] f fd) (DD:Df K mg "number_of_division" dU ["kind","first","second"] fD fdD) (T:Fts K mg CN CG) :
  bA P w K mg base (CXo P w) 2 f fd ["kind","first","second"] (Kc CN CG):=by
 have GD:bA P w K mg base (CXo P w) 1 fD fdD ["kind","first","second"] (Kb CN):=LO DD T;refine D.F.okX scTw (fun vs H Q E h=>?_) (fun cdv A outer s H vs Q E hr h=>?_)
 ·obtain ⟨k,a,b,rfl,_⟩:=h;rfl
 obtain ⟨k,a,b,rfl,ha,hb,h⟩:=h;unfold zl at h;refine ⟨_,aj (cS (bP e7 (pv 0) bX (cb _)) (ay (bM (cT gK (pv 1) (pv 2)))) bY)
  (aj (cS (bP e7 (pv 0) bX (cb _)) (ay (bM (cT jv (pv 1) (pv 2)))) bY)
  (aj (cS (bP e7 (pv 0) bX (cb _)) (ay (bM (cT qm (pv 1) (pv 2)))) bY)
  (aj (cS (bP e7 (pv 0) bX (cb _)) (ay (bM (uB (bP p7 (pv 1) (pv 2) (cb _)) aw aw))) bY)
  (aj (cS (bP e7 (pv 0) bX (cb _)) (ay (bM (uB (bP e7 (pv 1) (pv 2) (cb _)) aw aw))) bY)
  (ay (bM (aK GD hr rfl DD.m DD.F.kp DD.b .nil (dJ.passes fun _ _ _ z=>z) (ao (pv 0) (ao (pv 1) (ao (pv 2) ai)))))))))),?_⟩
 refine ⟨_,rfl,rfl,_,rfl,fV (fun c=>?_) (fun c=>?_)⟩
 ·rw [if_pos (r9 (jP c))] at h;exact ⟨_,rfl,_,rfl,_,_,rfl,rfl,h⟩
 rw [if_neg fun z=>jX c (by rw [z])] at h;refine ⟨_,rfl,rfl,_,rfl,fV (fun c=>?_) (fun c=>?_)⟩
 ·rw [if_pos (r9 (jP c))] at h;exact ⟨_,rfl,_,rfl,_,_,rfl,rfl,h⟩
 rw [if_neg fun z=>jX c (by rw [z])] at h;refine ⟨_,rfl,rfl,_,rfl,fV (fun c=>?_) (fun c=>?_)⟩
 ·rw [if_pos (r9 (jP c))] at h;refine ⟨_,rfl,_,rfl,_,_,rfl,rfl,.inl ⟨?_,?_⟩,h⟩
  ·unfold Wo at ha; omega
  ·unfold Wo at ha; omega
 rw [if_neg fun z=>jX c (by rw [z])] at h;refine ⟨_,rfl,rfl,_,rfl,fV (fun c=>?_) (fun c=>?_)⟩
 ·rw [if_pos (r9 (jP c))] at h;refine ⟨_,rfl,_,rfl,_,_,rfl,rfl,_,rfl,fV (fun c2=>?_) (fun c2=>?_)⟩
  ·rw [if_pos (jP c2)] at h;exact h
  ·rw [if_neg (jX c2)] at h;exact h
 rw [if_neg fun z=>jX c (by rw [z])] at h;refine ⟨_,rfl,rfl,_,rfl,fV (fun c=>?_) (fun c=>?_)⟩
 ·rw [if_pos (r9 (jP c))] at h;refine ⟨_,rfl,_,rfl,rfl,_,rfl,fV (fun c2=>?_) (fun c2=>?_)⟩
  ·rw [if_pos (xY (jP c2))] at h;exact h
  ·rw [if_neg fun z=>jX c2 (by rw [z])] at h;exact h
 rw [if_neg fun z=>jX c (by rw [z])] at h;refine ⟨_,rfl,_,rfl,_,rfl,k,a,b,rfl,hb,fun z=>?_,fun z1 z2=>?_,fun z1 z2=>?_⟩
 ·rw [if_pos z] at h;exact h
 ·rw [if_neg z1,if_pos z2] at h;exact h
 ·rw [if_neg z1,if_neg z2] at h;exact h
structure Holds (K:af) (CS:aa) (bs qs:List Str) (H:Hp) (st gl:aa) (e:xX):Prop where
 ex:∃ (dx bd qd:aa) (fs:List (Str×V)) (bk qk:List (Key×V)),H st=some (.ins CS dx fs)/\fs.lookup ("boxes":Str)=some (.ref bd)/\fs.lookup ("queues":Str)=some (.ref qd)/\H bd=some (.dK bk)/\H qd=some (.dK qk) /\
  (∀ x∈bs,jn bk (Sum.inr x)=some (.int (e.bx x)))/\(∀ x∈qs,∃ l xs,jn qk (Sum.inr x)=some (.ref l)/\H l=some (.lst xs)/\xs.length=e.lg x)
 hgl:H gl=some (.lst [.int e.g0,.int e.g1])
inductive Bs (K:af) (CS:aa) (bs qs:List Str) (vs:List V) (H:Hp) (Q:VK) (_e:XK):Prop where
 | mk (v:V) (F:Fm) (st gl:aa) (e:xX) (_:vs=[v,.ref st,.int e.nw,.ref gl]) (_:iZ bs qs H v F) (_:F.depth<=1) (_:Holds K CS bs qs H st gl e) (_:∀ r,ev e F=.ok r->Q (.int r) H):Bs K CS bs qs vs H Q _e
def Fy (K:af) (CS:aa) (bs qs:List Str):Sp:=fun vs H Q _e=>Bs K CS bs qs vs H Q _e
theorem scLf:bK ["formula","state","now","got","kind"] ["formula","state","now","got"] (aL gb):={}
theorem Fz:¬ (("box":Str)="number")/\¬ (("long":Str)="number")/\¬ (("long":Str)="box")/\¬ (("got":Str)="number")/\¬ (("got":Str)="box")/\¬ (("got":Str)="long")/\¬ (("now":Str)="number")/\¬ (("now":Str)="box")/\¬ (("now":Str)="long")/\¬ (("now":Str)="got"):=by decide +kernel
theorem tP {a b:Str} (h:¬ a=b):decide (V.str a=V.str b)=false:=decide_eq_false fun z=>h (V.str.inj z)
theorem C5 (a:Str):decide (V.str a=V.str a)=true:=decide_eq_true rfl
theorem l8 {c:Bool} {b:Bool} {p q:Prop} (h:c=b) (t:if b=true then p else q):if c=true then p else q:=by
 rw [h];exact t
theorem IJ {bs qs:List Str} (D:Df K mg "number_of_leaf" gb ["formula","state","now","got"] f fd) (T:MdT K mg CM CS) (B:Bl mg):bA P w K mg base CX0 1 f fd ["formula","state","now","got"] (Fy K CS bs qs):=by
 refine D.F.ok scLf (fun vs H Q E h=>?_) (fun cdv A outer s H vs Q E hr h=>?_)
 ·obtain ⟨v,F,st,gl,e,rfl,_⟩:=h;rfl
 obtain ⟨v,F,st,gl,e,rfl,hF,hd,⟨⟨dx,bd,qd,fs,bk,qk,h1,h2,h3,h4,h5,h6,h7⟩,h8⟩,q⟩:=h;have hu:=kQ hr;refine ⟨_,aj (bC (i:=4) scLf.nd rfl (Or.inl rfl) (bU cz (pv 0) aw (fun _ _=>rfl)))
  (aj (cS (bP e7 (pv 4) bX (cb _)) (ay (bM (bU cz (pv 0) aw (fun _ _=>rfl)))) bY)
  (aj (cS (bP e7 (pv 4) bX (cb _)) (ay (bM (pO hu (cO (pv 1) rfl) (bU cz (pv 0) aw (fun _ _=>rfl)) (fun _ _=>rfl)))) bY)
  (aj (cS (bP e7 (pv 4) bX (cb _)) (ay (bM (cL gP (by rfl) B.len cA (ao (pO hu (cO (pv 1) rfl) (bU cz (pv 0) aw (fun _ _=>rfl)) (fun _ _=>rfl)) ai)))) bY)
  (aj (cS (bP e7 (pv 4) bX (cb _)) (ay (bM (bU dI (pv 3) (bU cz (pv 0) aw (fun _ _=>rfl)) (fun _ _=>rfl)))) bY)
  (ay (bM (pv 2))))))),?_⟩
 obtain ⟨k1,k2,k3,k4,k5,k6,k7,k8,k9,k10⟩:=Fz
 cases hF with
 | @num t n ht hn =>
  refine ⟨_,rfl,t,_,_,_,rfl,rfl,SqT.of ht,rfl,_,rfl,rfl,_,rfl,l8 (C5 _) (iL ?_)⟩;exact ⟨_,rfl,t,_,_,_,rfl,rfl,SqT.of ht,rfl,q _ rfl⟩
 | @box t x ht hx =>
  refine ⟨_,rfl,t,_,_,_,rfl,rfl,SqT.of ht,rfl,_,rfl,rfl,_,rfl,l8 (tP k1) (fZ ?_)⟩;refine ⟨_,rfl,rfl,_,rfl,l8 (C5 _) (iL ?_)⟩;exact ⟨_,rfl,st,CS,dx,_,_,rfl,h1,T.clS,T.nB,h2,_,rfl,t,_,_,_,rfl,rfl,SqT.of ht,rfl,bd,_,rfl,(by have z:=nZ.k (k:=Sum.inr x) h4; rw [h6 x hx] at z; exact z),q _ rfl⟩
 | @long t x ht hx =>
  obtain ⟨l,xs,g1,g2,g3⟩:=h7 x hx;refine ⟨_,rfl,t,_,_,_,rfl,rfl,SqT.of ht,rfl,_,rfl,rfl,_,rfl,l8 (tP k2) (fZ ?_)⟩;refine ⟨_,rfl,rfl,_,rfl,l8 (tP k3) (fZ ?_)⟩;refine ⟨_,rfl,rfl,_,rfl,l8 (C5 _) (iL ?_)⟩;exact ⟨_,rfl,st,CS,dx,_,_,rfl,h1,T.clS,T.nQ,h3,_,rfl,t,_,_,_,rfl,rfl,SqT.of ht,rfl,qd,_,rfl,(by have z:=nZ.k (k:=Sum.inr x) h5; rw [g1] at z; exact z),l,xs,rfl,.inl (SqL.of g2),q _ (by rw [g3]; rfl)⟩
 | @got t j ht =>
  refine ⟨_,rfl,t,_,_,_,rfl,rfl,SqT.of ht,rfl,_,rfl,rfl,_,rfl,l8 (tP k4) (fZ ?_)⟩;refine ⟨_,rfl,rfl,_,rfl,l8 (tP k5) (fZ ?_)⟩;refine ⟨_,rfl,rfl,_,rfl,l8 (tP k6) (fZ ?_)⟩;refine ⟨_,rfl,rfl,_,rfl,l8 (C5 _) (iL ?_)⟩
  cases j
  ·exact ⟨_,rfl,_,rfl,t,_,_,_,rfl,rfl,SqT.of ht,rfl,gl,_,_,_,rfl,rfl,SqL.of h8,rfl,q _ rfl⟩
  ·exact ⟨_,rfl,_,rfl,t,_,_,_,rfl,rfl,SqT.of ht,rfl,gl,_,_,_,rfl,rfl,SqL.of h8,rfl,q _ rfl⟩
 | @now t ht =>
  refine ⟨_,rfl,t,_,_,_,rfl,rfl,SqT.of ht,rfl,_,rfl,rfl,_,rfl,l8 (tP k7) (fZ ?_)⟩;refine ⟨_,rfl,rfl,_,rfl,l8 (tP k8) (fZ ?_)⟩;refine ⟨_,rfl,rfl,_,rfl,l8 (tP k9) (fZ ?_)⟩;refine ⟨_,rfl,rfl,_,rfl,l8 (tP k10) (fZ ?_)⟩;exact ⟨_,rfl,q _ rfl⟩
 | @two t k u v f1 f2 ht hk h1 h2 =>
  have z1:0 < f1.depth:=by cases f1 <;> exact o7 _
  unfold Fm.depth at hd;omega
inductive Kd (K:af) (CS CN CG:aa) (bs qs:List Str) (n:Nat) (vs:List V) (H:Hp) (Q:VK) (E:XK):Prop where
 | mk (v:V) (F:Fm) (st gl:aa) (e:xX) (_:vs=[v,.ref st,.int e.nw,.ref gl]) (_:iZ bs qs H v F) (_:F.depth<=n) (_:Holds K CS bs qs H st gl e) (_:e.Ok bs qs) (_:w6 CN CG (ev e F) Q E H):Kd K CS CN CG bs qs n vs H Q E
def FA (K:af) (CS CN CG:aa) (bs qs:List Str) (n:Nat):Sp:=fun vs H Q E=>Kd K CS CN CG bs qs n vs H Q E
theorem FB:bK ["formula","state","now","got","first","second","number"] ["formula","state","now","got"] (aL kg):={}
theorem IK {bs qs:List Str} {H:Hp} {v:V} {F:Fm} (h:iZ bs qs H v F):(∃ t xs,v=.ref t/\H t=some (.tup xs)/\¬ (xs.length:Int)=3/\F.depth<=1/\∀ e:xX,∃ r,ev e F=.ok r) \/
  ∃ t k u w f g,v=.ref t/\F=.two k f g/\H t=some (.tup [.str k,u,w])/\k∈Br/\iZ bs qs H u f/\iZ bs qs H w g:=by
 cases h with
 | num h1 h2=>exact .inl ⟨_,_,rfl,h1,by show ¬ ((2:Nat):Int)=3; decide,aC _,fun e=>⟨_,rfl⟩⟩
 | box h1 h2=>exact .inl ⟨_,_,rfl,h1,by show ¬ ((2:Nat):Int)=3; decide,aC _,fun e=>⟨_,rfl⟩⟩
 | long h1 h2=>exact .inl ⟨_,_,rfl,h1,by show ¬ ((2:Nat):Int)=3; decide,aC _,fun e=>⟨_,rfl⟩⟩
 | got h1=>exact .inl ⟨_,_,rfl,h1,by show ¬ ((2:Nat):Int)=3; decide,aC _,fun e=>⟨_,rfl⟩⟩
 | now h1=>exact .inl ⟨_,_,rfl,h1,by show ¬ ((1:Nat):Int)=3; decide,aC _,fun e=>⟨_,rfl⟩⟩
 | two h1 h2 h3 h4=>exact .inr ⟨_,_,_,_,_,_,rfl,rfl,h1,h2,h3,h4⟩
theorem IL {bs qs:List Str} {n:Nat} (D:Df K mg "worth_of" kg ["formula","state","now","got"] f fd) (DT:Df K mg "number_of_two" gv ["kind","first","second"] fT fdT) (DD:Df K mg "number_of_division" dU ["kind","first","second"] fD fdD)
  (DL:Df K mg "number_of_leaf" gb ["formula","state","now","got"] fL fdL) (T:Fts K mg CN CG) (TM:MdT K mg CM CS) (B:Bl mg) (G:bA P w K mg base (CXo P w) (n + 2) f fd ["formula","state","now","got"] (FA K CS CN CG bs qs n)) :
  bA P w K mg base (CXo P w) (n + 3) f fd ["formula","state","now","got"] (FA K CS CN CG bs qs (n + 1)):=by
 have GT:bA P w K mg base (CXo P w) 2 fT fdT ["kind","first","second"] (Kc CN CG):=LP DT DD T;have GL:bA P w K mg base CX0 1 fL fdL ["formula","state","now","got"] (Fy K CS bs qs):=IJ DL TM B;refine D.F.okX FB (fun vs H Q E h=>?_) (fun cdv A outer s H vs Q E hr h=>?_)
 ·obtain ⟨v,F,st,gl,e,rfl,_⟩:=h;rfl
 obtain ⟨v,F,st,gl,e,rfl,hF,hd,ho,eo,h⟩:=h;have r2:c5 2 _:=hr.mono (by omega);have r1:c5 1 _:=hr.mono (by omega);refine ⟨_,aj (cS (bP e7 (cL gP (by rfl) B.len cA (ao (pv 0) ai)) aw (cb _))
   (aj (bC (i:=4) FB.nd rfl (Or.inl rfl) (aK G hr rfl D.m D.F.kp D.b .nil (dJ.passes fun _ _ _ z=>z) (ao (bU cz (pv 0) aw (fun _ _=>rfl)) (ao (pv 1) (ao (pv 2) (ao (pv 3) ai))))))
   (aj (bC (i:=5) FB.nd rfl (Or.inl rfl) (aK G hr rfl D.m D.F.kp D.b .nil (dJ.passes fun _ _ _ z=>z) (ao (bU cz (pv 0) aw (fun _ _=>rfl)) (ao (pv 1) (ao (pv 2) (ao (pv 3) ai))))))
   (ay (bC (i:=6) FB.nd rfl (Or.inl rfl) (aK GT r2 rfl DT.m DT.F.kp DT.b .nil (dJ.passes fun _ _ _ z=>z) (ao (bU cz (pv 0) aw (fun _ _=>rfl)) (ao (pv 4) (ao (pv 5) ai))))))))
   (ay (bC (i:=6) FB.nd rfl (Or.inl rfl) (aK GL r1 rfl DL.m DL.F.kp DL.b .nil bj (ao (pv 0) (ao (pv 1) (ao (pv 2) (ao (pv 3) ai))))))))
  (aj (cS (bP uE (cL Es (by rfl) B.abs boot_abs (ao (pv 6) ai)) (cT rK aw aw) (cb _)) (ay (jK dJ rfl rfl T.mG T.xG (ao bX ai))) bY)
  (ay (bM (pv 6)))),?_⟩
 have c15:Cm 10 15:=⟨by decide,by decide,by decide⟩;have l1:1<=aB:=by decide
 rcases IK hF with ⟨t,xs,rfl,ht,hx,hd1,hv⟩ | ⟨t,k,u,v',f1,f2,rfl,rfl,ht,hk,h1,h2⟩
 ·obtain ⟨r,hr'⟩:=hv e;refine ⟨_,rfl,t,_,rfl,.inr (SqT.of ht),rfl,_,rfl,fV (fun c=>absurd (xY (jP c)) hx) (fun c=>?_)⟩;refine ⟨_,rfl,_,rfl,_,rfl,_,rfl,.ref t,F,st,gl,e,rfl,hF,hd1,ho,fun r' hr2=>?_⟩;refine ⟨_,rfl,_,rfl,_,_,rfl,rfl,c15,_,_,rfl,rfl,_,rfl,fV (fun c=>?_) (fun c=>?_)⟩
  ·exact absurd (jP c) (Fv (tD eo hF hr2))
  ·rw [hr2] at h;exact ⟨_,rfl,h⟩
 ·have d1:f1.depth<=n:=by
   unfold Fm.depth at hd;omega
  have d2:f2.depth<=n:=by
   unfold Fm.depth at hd;omega
  refine ⟨_,rfl,t,_,rfl,.inr (SqT.of ht),rfl,_,rfl,fV (fun c=>?_) (fun c=>absurd rfl (jX c))⟩;refine ⟨_,rfl,t,_,_,_,rfl,rfl,SqT.of ht,rfl,_,rfl,_,rfl,_,rfl,u,f1,st,gl,e,rfl,h1,d1,ho,eo,?_⟩;unfold ev at h
  cases e1:ev e f1 with
  | nought=>rw [e1] at h; exact h
  | great=>rw [e1] at h; exact h
  | ok a =>
   rw [e1] at h;refine ⟨_,rfl,t,_,_,_,rfl,rfl,SqT.of ht,rfl,_,rfl,_,rfl,_,rfl,v',f2,st,gl,e,rfl,h2,d2,ho,eo,?_⟩
   cases e2:ev e f2 with
   | nought=>rw [e2] at h; exact h
   | great=>rw [e2] at h; exact h
   | ok b =>
    rw [e2] at h;have h:w6 CN CG (cap (zl k a b)) Q E H:=h;refine ⟨_,rfl,t,_,_,_,rfl,rfl,SqT.of ht,rfl,_,rfl,_,rfl,k,a,b,rfl,tD eo h1 e1,tD eo h2 e2,?_⟩
    cases e3:zl k a b with
    | nought=>rw [e3] at h; exact h
    | great=>rw [e3] at h; exact h
    | ok r =>
     rw [e3] at h;have h':w6 CN CG (if 10 ^ 15 < qU r then .great else .ok r) Q E H:=h;refine ⟨_,rfl,_,rfl,_,_,rfl,rfl,c15,_,_,rfl,rfl,_,rfl,fV (fun c=>?_) (fun c=>?_)⟩
     ·rw [if_pos (show 10 ^ 15 < qU r from jP c)] at h';exact ⟨l1,h'⟩
     ·rw [if_neg (show ¬ 10 ^ 15 < qU r from jX c)] at h';exact ⟨_,rfl,h'⟩
theorem C6 (F:Fm):0 < F.depth:=by cases F <;> exact o7 _
theorem Ke {bs qs:List Str} (D:Df K mg "worth_of" kg ["formula","state","now","got"] f fd) (DT:Df K mg "number_of_two" gv ["kind","first","second"] fT fdT) (DD:Df K mg "number_of_division" dU ["kind","first","second"] fD fdD)
  (DL:Df K mg "number_of_leaf" gb ["formula","state","now","got"] fL fdL) (T:Fts K mg CN CG) (TM:MdT K mg CM CS) (B:Bl mg):∀ n:Nat,bA P w K mg base (CXo P w) (n + 2) f fd ["formula","state","now","got"] (FA K CS CN CG bs qs n)
 | 0=>by
  have no:∀ vs H Q E,¬ FA K CS CN CG bs qs 0 vs H Q E:=fun vs H Q E h=>by
   obtain ⟨v,F,st,gl,e,_,_,hd,_⟩:=h;have:=C6 F;omega
  exact ⟨fun vs H Q E h=>absurd h (no vs H Q E),fun A outer s H args us vs Q E _ _ _ _ h=>absurd h (no vs H Q E)⟩
 | n + 1=>IL D DT DD DL T TM B (Ke D DT DD DL T TM B n)
end
mutual
inductive Dd where
 | put (x:Str) (f:Fm)
 | push (q:Str) (f:Fm)
 | pull (q x:Str) (o:Ds)
 | draw (x:Str) (f:Fm)
 | send (to:Int) (sg:Str) (sp:Fm) (rk:Int) (a b:Fm)
 | ife (f:Fm) (t e:Ds)
 | fin
inductive Ds where
 | nil
 | cons (d:Dd) (r:Ds)
end
inductive Flt where
 | nought
 | great
 | full
 | dry
 | span
 | late
structure Ev where
 t:Int
 r:Int
 fr:Int
 c:Int
 to:Int
 sg:Str
 a:Int
 b:Int
structure Wk where
 bx:List (Str×Int)
 qu:List (Str×List Int)
 dr:Nat
 se:Int
 wr:List Str
 out:List Ev
 en:Bool
 rk:List Fm
 qn:List Str
def Wk.len (w:Wk):Nat:=w.out.length + w.rk.length
def uZ (ps:List (Str×Int)) (x:Str):Int:=(ps.lookup x).getD 0
def jo (ps:List (Str×List Int)) (x:Str):List Int:=(ps.lookup x).getD []
def nv {α:Type} (ps:List (Str×α)) (x:Str) (n:α):List (Str×α):=ps.map fun p=>if p.1=x then (p.1,n) else p
def lI (xs:List Str) (x:Str):List Str:=if x∈xs then xs else xs++[x]
def zm (h:Ev) (w:Wk):xX:=⟨uZ w.bx,fun q=>(jo w.qu q).length,h.a,h.b,h.t⟩
def rck (h:Ev) (w:Wk) (f:Fm) (k:Wk->Int->Except Flt Wk):Except Flt Wk:=match ev (zm h w) f with
 | .ok n=>k {w with rk:=w.rk++[f]} n
 | .nought=>.error .nought
 | .great=>.error .great
def FC (w:Wk) (x:Str) (n:Int):Wk:={w with bx:=nv w.bx x n,wr:=lI w.wr x}
def sendW (h:Ev) (w:Wk) (to:Int) (sg:Str) (rk t a b:Int):Wk:={w with se:=w.se + 1,out:=w.out++[⟨t,rk,h.to,w.se,to,sg,a,b⟩]}
mutual
def doD (h:Ev) (ds:List Int):Dd->Wk->Except Flt Wk
 | .put x f,w=>rck h w f fun w n=>.ok (FC w x n)
 | .push q f,w=>rck h w f fun w n=>if 30<=(jo w.qu q).length then .error .full else .ok {w with qu:=nv w.qu q (jo w.qu q++[n]),wr:=lI w.wr q,qn:=lI w.qn q}
 | .pull q x o,w=>match jo w.qu q with
  | []=>doS h ds o {w with qn:=lI w.qn q}
  | n :: ns=>.ok {w with qu:=nv w.qu q ns,bx:=nv w.bx x n,wr:=lI (lI w.wr x) q,qn:=lI w.qn q}
 | .draw x f,w=>rck h w f fun w n=>if n < 1 then .error .nought else if ds=[] then .error .dry else .ok (FC {w with dr:=w.dr + 1} x (ds.getD (w.dr % ds.length) 0 % n))
 | .send to sg sp rk a b,w=>rck h w sp fun w n=>if n < 1\/10 ^ 6 < n then .error .span else rck h w a fun w x=>rck h w b fun w y=>if 10 ^ 12 < h.t + n then .error .late else .ok (sendW h w to sg rk (h.t + n) x y)
 | .ife f t e,w=>rck h w f fun w n=>if n=0 then doS h ds e w else doS h ds t w
 | .fin,w=>.ok {w with en:=true}
def doS (h:Ev) (ds:List Int):Ds->Wk->Except Flt Wk
 | .nil,w=>.ok w
 | .cons d r,w=>match doD h ds d w with
  | .ok w'=>doS h ds r w'
  | .error e=>.error e
end
mutual
def Dd.deep:Dd->Nat
 | .pull _ _ o=>o.deep + 1
 | .ife _ t e=>max t.deep e.deep + 1
 | _=>0
def Ds.deep:Ds->Nat
 | .nil=>0
 | .cons d r=>max d.deep r.deep
end
def kX (H:Hp) (R:List V->Prop) (v:V):Prop:=∃ l vs,v=.ref l/\H l=some (.lst vs)/\vs.length < 1000/\R vs
def FmI (bs qs:List Str) (H:Hp) (v:V) (f:Fm):Prop:=iZ bs qs H v f/\f.depth<=15
mutual
def eu (bs qs:List Str) (H:Hp):Dd->V->Prop
 | .put x f,v=>∃ t u,v=.ref t/\H t=some (.tup [.str "put",.str x,u])/\x∈bs/\FmI bs qs H u f
 | .push q f,v=>∃ t u,v=.ref t/\H t=some (.tup [.str "push",.str q,u])/\q∈qs/\FmI bs qs H u f
 | .pull q x o,v=>∃ t u,v=.ref t/\H t=some (.tup [.str "pull",.str q,.str x,u])/\q∈qs/\x∈bs/\kX H (eX bs qs H o) u
 | .draw x f,v=>∃ t u,v=.ref t/\H t=some (.tup [.str "draw",.str x,u])/\x∈bs/\FmI bs qs H u f
 | .send to sg sp rk a b,v=>∃ t u u1 u2,v=.ref t/\H t=some (.tup [.str "send",.int to,.str sg,u,.int rk,u1,u2])/\FmI bs qs H u sp/\FmI bs qs H u1 a/\FmI bs qs H u2 b
 | .ife f x y,v=>∃ t u u1 u2,v=.ref t/\H t=some (.tup [.str "if",u,u1,u2])/\FmI bs qs H u f/\kX H (eX bs qs H x) u1/\kX H (eX bs qs H y) u2
 | .fin,v=>∃ t,v=.ref t/\H t=some (.tup [.str "end"])
def eX (bs qs:List Str) (H:Hp):Ds->List V->Prop
 | .nil,vs=>vs=[]
 | .cons d r,vs=>∃ v vr,vs=v :: vr/\eu bs qs H d v/\eX bs qs H r vr
end
theorem kX.same {H H':Hp} (s:bf H H') {R R':List V->Prop} (f:∀ vs,R vs->R' vs) {v:V} (h:kX H R v):kX H' R' v:=by
 obtain ⟨l,vs,e,h1,h2,h3⟩:=h;exact ⟨l,vs,e,s _ _ h1,h2,f vs h3⟩
theorem FmI.same {bs qs:List Str} {H H':Hp} (s:bf H H') {v:V} {f:Fm} (h:FmI bs qs H v f):FmI bs qs H' v f:=⟨h.1.same s,h.2⟩
mutual
theorem eu.same {bs qs:List Str} {H H':Hp} (s:bf H H'):∀ (d:Dd) (v:V),eu bs qs H d v->eu bs qs H' d v
 | .put x f,v,h=>by
  obtain ⟨t,u,e,h1,h2,h3⟩:=(by simpa only [eu] using h);simp only [eu];exact ⟨t,u,e,s _ _ h1,h2,h3.same s⟩
 | .push q f,v,h=>by
  obtain ⟨t,u,e,h1,h2,h3⟩:=(by simpa only [eu] using h);simp only [eu];exact ⟨t,u,e,s _ _ h1,h2,h3.same s⟩
 | .pull q x o,v,h=>by
  obtain ⟨t,u,e,h1,h2,h3,h4⟩:=(by simpa only [eu] using h);simp only [eu];exact ⟨t,u,e,s _ _ h1,h2,h3,h4.same s (eX.same s o)⟩
 | .draw x f,v,h=>by
  obtain ⟨t,u,e,h1,h2,h3⟩:=(by simpa only [eu] using h);simp only [eu];exact ⟨t,u,e,s _ _ h1,h2,h3.same s⟩
 | .send to sg sp rk a b,v,h=>by
  obtain ⟨t,u,u1,u2,e,h1,h2,h3,h4⟩:=(by simpa only [eu] using h);simp only [eu];exact ⟨t,u,u1,u2,e,s _ _ h1,h2.same s,h3.same s,h4.same s⟩
 | .ife f x y,v,h=>by
  obtain ⟨t,u,u1,u2,e,h1,h2,h3,h4⟩:=(by simpa only [eu] using h);simp only [eu];exact ⟨t,u,u1,u2,e,s _ _ h1,h2.same s,h3.same s (eX.same s x),h4.same s (eX.same s y)⟩
 | .fin,v,h=>by
  obtain ⟨t,e,h1⟩:=(by simpa only [eu] using h);simp only [eu];exact ⟨t,e,s _ _ h1⟩
theorem eX.same {bs qs:List Str} {H H':Hp} (s:bf H H'):∀ (d:Ds) (vs:List V),eX bs qs H d vs->eX bs qs H' d vs
 | .nil,vs,h=>by
  simpa only [eX] using h
 | .cons d r,vs,h=>by
  obtain ⟨v,vr,e,h1,h2⟩:=(by simpa only [eX] using h);simp only [eX];exact ⟨v,vr,e,eu.same s d v h1,eX.same s r vr h2⟩
end
def gQ (H:Hp) (v:V) (e:Ev):Prop:=∃ t k,v=.ref t/\H t=some (.tup [.ref k,.int e.to,.str e.sg,.int e.a,.int e.b])/\H k=some (.tup [.int e.t,.int e.r,.int e.fr,.int e.c])
theorem gQ.same {H H':Hp} (s:bf H H') {v:V} {e:Ev} (h:gQ H v e):gQ H' v e:=by
 obtain ⟨t,k,e1,h1,h2⟩:=h;exact ⟨t,k,e1,s _ _ h1,s _ _ h2⟩
def boK (ps:List (Str×Int)):List (Key×V):=ps.map fun p=>((Sum.inr p.1:Key),V.int p.2)
def quK (ps:List (Str×aa)):List (Key×V):=ps.map fun p=>((Sum.inr p.1:Key),V.ref p.2)
def wrK (xs:List Str):List (Key×V):=xs.map fun x=>((Sum.inr x:Key),V.bl true)
theorem qV {α:Type} (g:α->V) (x:Str):∀ ps:List (Str×α),jn (ps.map fun p=>((Sum.inr p.1:Key),g p.2)) (Sum.inr x)=(ps.lookup x).map g
 | []=>rfl
 | p :: ps=>by
  rw [bQ]
  by_cases c:p.1=x
  ·rw [oK (by rw [c])];obtain ⟨a,b⟩:=p;dsimp only at c;subst c;rw [bO];rfl
  ·rw [oM (fun z=>c (kO z)),qV g x ps];obtain ⟨a,b⟩:=p;dsimp only at c;rw [cy];have:(x == a)=false:=beq_eq_false_iff_ne.mpr fun z=>c z.symm;rw [this]
theorem IM {α:Type} (g:α->V) (x:Str) (n:α) {ps:List (Str×α)} (h:(ps.lookup x).isSome=true):iE (ps.map fun p=>((Sum.inr p.1:Key),g p.2)) (Sum.inr x) (g n)=(nv ps x n).map fun p=>((Sum.inr p.1:Key),g p.2):=by
 unfold iE;rw [jJ,qV,lD,h,if_pos rfl];unfold nv;rw [dS,dS];apply gO;intro p _
 by_cases c:p.1=x
 ·simp only [p4,c,if_true]
 ·simp only [p4,if_neg c,if_neg (fun z=>c (kO z):¬ (Sum.inr p.1:Key)=Sum.inr x)]
theorem Bt (xs:List Str) (x:Str):jn (wrK xs) (Sum.inr x)=if x∈xs then some (.bl true) else none:=by
 induction xs with
 | nil=>rfl
 | cons y xs ih =>
  unfold wrK at ih |-;rw [bQ]
  by_cases c:y=x
  ·rw [oK (by rw [c]),if_pos (by rw [c]; exact ax)]
  ·rw [oM (fun z=>c (kO z)),ih]
   by_cases m:x∈xs
   ·rw [if_pos m,if_pos (ag _ m)]
   ·rw [if_neg m,if_neg];intro z
    rcases au.mp z with z | z
    ·exact c z.symm
    ·exact m z
theorem Bu (xs:List Str) (x:Str):iE (wrK xs) (Sum.inr x) (.bl true)=wrK (lI xs x):=by
 unfold iE;rw [jJ,Bt]
 by_cases m:x∈xs
 ·rw [if_pos m];unfold lI;rw [if_pos m];show (if true=true then _ else _)=_;rw [if_pos rfl];unfold wrK;rw [dS];apply gO;intro y _
  by_cases c:y=x
  ·simp only [p4,c,if_true]
  ·simp only [p4,if_neg (fun z=>c (kO z):¬ (Sum.inr y:Key)=Sum.inr x)]
 ·rw [if_neg m];unfold lI;rw [if_neg m];show (if false=true then _ else _)=_;rw [if_neg (by decide)];unfold wrK;rw [cg];rfl
theorem w8 {α:Type} (ps:List (Str×α)) (x:Str) (n:α):(nv ps x n).map (·.1)=ps.map (·.1):=by
 unfold nv;rw [dS];apply gO;intro p _;show (if p.1=x then (p.1,n) else p).1=p.1
 split <;> rfl
theorem l9 {α:Type} {x:Str}:∀ {ps:List (Str×α)},x∈ps.map (·.1)->∃ a,ps.lookup x=some a/\(x,a)∈ps
 | [],h=>by cases h
 | p :: ps,h=>by
  obtain ⟨k,a⟩:=p
  by_cases c:x=k
  ·subst c;exact ⟨a,bO,ax⟩
  ·have h':x∈ps.map (·.1):=by
    rcases au.mp h with z | z
    ·exact absurd z c
    ·exact z
   obtain ⟨b,h1,h2⟩:=l9 h';refine ⟨b,?_,ag _ h2⟩;rw [cy,beq_eq_false_iff_ne.mpr c];exact h1
theorem zo {α:Type} {x:Str} {n:α} {ps:List (Str×α)} {q:Str×α} (h:q∈nv ps x n):q∈ps\/q.2=n:=by
 obtain ⟨p,hp,e⟩:=cC.mp h
 by_cases c:p.1=x
 ·rw [if_pos c] at e;subst e;exact .inr rfl
 ·rw [if_neg c] at e;subst e;exact .inl hp
structure DT (K:af) (mg:Str->Option ae) (CD:aa):Prop where
 cl:Cls K CD
 nM:d8 K CD "machine"
 nH:d8 K CD "happening"
 nS:d8 K CD "state"
 nW:d8 K CD "written"
 nO:d8 K CD "outgoing"
 nE:d8 K CD "ends"
 nR:d8 K CD "reckoned"
 nQ:d8 K CD "queued"
 mD:mg "Doing"=some (.ref CD)
def dF (m h:V) (st wd od:aa) (en:Bool) (rd ud:aa):List (Str×V):=[("machine",m),("happening",h),("state",.ref st),("written",.ref wd),("outgoing",.ref od),("ends",.bl en),("reckoned",.ref rd),("queued",.ref ud)]
abbrev AF:List Str:=["machine","happening","state","written","outgoing","ends","reckoned","queued"]
theorem LQ (m h:V) (st wd od:aa) (en:Bool) (rd ud:aa):(dF m h st wd od en rd ud).lookup ("machine":Str)=some m:=bO
theorem dB {k x:Str} {v:V} {r:List (Str×V)} (h:(x == k)=false):((k,v) :: r).lookup x=r.lookup x:=by rw [cy,h]
theorem IP (m h:V) (st wd od:aa) (en:Bool) (rd ud:aa):(dF m h st wd od en rd ud).lookup ("happening":Str)=some h:=by
 unfold dF;rw [dB (by decide +kernel),bO]
theorem vZ (m h:V) (st wd od:aa) (en:Bool) (rd ud:aa):(dF m h st wd od en rd ud).lookup ("state":Str)=some (.ref st):=by
 unfold dF;rw [dB (by decide +kernel),dB (by decide +kernel),bO]
theorem FD (m h:V) (st wd od:aa) (en:Bool) (rd ud:aa):(dF m h st wd od en rd ud).lookup ("written":Str)=some (.ref wd):=by
 unfold dF;rw [dB (by decide +kernel),dB (by decide +kernel),dB (by decide +kernel),bO]
theorem dF_o (m h:V) (st wd od:aa) (en:Bool) (rd ud:aa):(dF m h st wd od en rd ud).lookup ("outgoing":Str)=some (.ref od):=by
 unfold dF;rw [dB (by decide +kernel),dB (by decide +kernel),dB (by decide +kernel),dB (by decide +kernel),bO]
theorem dF_e (m h:V) (st wd od:aa) (en:Bool) (rd ud:aa):(dF m h st wd od en rd ud).lookup ("ends":Str)=some (.bl en):=by
 unfold dF;rw [dB (by decide +kernel),dB (by decide +kernel),dB (by decide +kernel),dB (by decide +kernel),dB (by decide +kernel),bO]
theorem dF_r (m h:V) (st wd od:aa) (en:Bool) (rd ud:aa):(dF m h st wd od en rd ud).lookup ("reckoned":Str)=some (.ref rd):=by
 unfold dF;rw [dB (by decide +kernel),dB (by decide +kernel),dB (by decide +kernel),dB (by decide +kernel),dB (by decide +kernel),dB (by decide +kernel),bO]
theorem dF_u (m h:V) (st wd od:aa) (en:Bool) (rd ud:aa):(dF m h st wd od en rd ud).lookup ("queued":Str)=some (.ref ud):=by
 unfold dF;rw [dB (by decide +kernel),dB (by decide +kernel),dB (by decide +kernel),dB (by decide +kernel),dB (by decide +kernel),dB (by decide +kernel),dB (by decide +kernel),bO]
theorem nX (m h:V) (st wd od:aa) (en:Bool) (rd ud:aa) {x:Str} (hx:AF.contains x=false):(dF m h st wd od en rd ud).lookup x=none:=by
 have z:∀ k∈AF,(x == k)=false:=fun k hk=>beq_eq_false_iff_ne.mpr fun e=>by
  rw [e,jQ.mpr hk] at hx
  cases hx
 unfold dF;rw [dB (z _ (by simp)),dB (z _ (by simp)),dB (z _ (by simp)),dB (z _ (by simp)),dB (z _ (by simp)),dB (z _ (by simp)),dB (z _ (by simp)),dB (z _ (by simp))];rfl
theorem sne {a b:Str} (h:(a == b)=false):¬ a=b:=fun e=>by
 rw [e,beq_self_eq_true] at h
 cases h
theorem LR (m h:V) (st wd od:aa) (en:Bool) (rd ud:aa):cD "queued" (.ref ud) (cD "reckoned" (.ref rd) (cD "ends" (.bl en) (cD "outgoing" (.ref od) (cD "written" (.ref wd) (cD "state" (.ref st) (cD "happening" h (cD "machine" m [])))))))=dF m h st wd od en rd ud:=by
 simp only [dF,cD,if_neg (sne (a:="machine") (b:="happening") (by decide +kernel)),if_neg (sne (a:="machine") (b:="state") (by decide +kernel)),if_neg (sne (a:="machine") (b:="written") (by decide +kernel)),if_neg (sne (a:="machine") (b:="outgoing") (by decide +kernel)),if_neg (sne (a:="machine") (b:="ends") (by decide +kernel)),if_neg (sne (a:="machine") (b:="reckoned") (by decide +kernel)),if_neg (sne (a:="machine") (b:="queued") (by decide +kernel)),if_neg (sne (a:="happening") (b:="state") (by decide +kernel)),if_neg (sne (a:="happening") (b:="written") (by decide +kernel)),if_neg (sne (a:="happening") (b:="outgoing") (by decide +kernel)),if_neg (sne (a:="happening") (b:="ends") (by decide +kernel)),if_neg (sne (a:="happening") (b:="reckoned") (by decide +kernel)),if_neg (sne (a:="happening") (b:="queued") (by decide +kernel)),if_neg (sne (a:="state") (b:="written") (by decide +kernel)),if_neg (sne (a:="state") (b:="outgoing") (by decide +kernel)),if_neg (sne (a:="state") (b:="ends") (by decide +kernel)),if_neg (sne (a:="state") (b:="reckoned") (by decide +kernel)),if_neg (sne (a:="state") (b:="queued") (by decide +kernel)),if_neg (sne (a:="written") (b:="outgoing") (by decide +kernel)),if_neg (sne (a:="written") (b:="ends") (by decide +kernel)),if_neg (sne (a:="written") (b:="reckoned") (by decide +kernel)),if_neg (sne (a:="written") (b:="queued") (by decide +kernel)),if_neg (sne (a:="outgoing") (b:="ends") (by decide +kernel)),if_neg (sne (a:="outgoing") (b:="reckoned") (by decide +kernel)),if_neg (sne (a:="outgoing") (b:="queued") (by decide +kernel)),if_neg (sne (a:="ends") (b:="reckoned") (by decide +kernel)),if_neg (sne (a:="ends") (b:="queued") (by decide +kernel)),if_neg (sne (a:="reckoned") (b:="queued") (by decide +kernel))]
theorem LS (m h:V) (st wd od:aa) (en e2:Bool) (rd ud:aa):cD "ends" (.bl e2) (dF m h st wd od en rd ud)=dF m h st wd od e2 rd ud:=by
 simp only [dF,cD,if_neg (sne (a:="machine") (b:="ends") (by decide +kernel)),if_neg (sne (a:="happening") (b:="ends") (by decide +kernel)),if_neg (sne (a:="state") (b:="ends") (by decide +kernel)),if_neg (sne (a:="written") (b:="ends") (by decide +kernel)),if_neg (sne (a:="outgoing") (b:="ends") (by decide +kernel)),if_true]
theorem jE (b q d e:V):nj b q d e=([("boxes",b),("queues",q),("drawn",d),("sent",e)]:List (Str×V)):=by
 simp only [nj,cD,if_neg (sne (a:="boxes") (b:="queues") (by decide +kernel)),if_neg (sne (a:="boxes") (b:="drawn") (by decide +kernel)),if_neg (sne (a:="boxes") (b:="sent") (by decide +kernel)),if_neg (sne (a:="queues") (b:="drawn") (by decide +kernel)),if_neg (sne (a:="queues") (b:="sent") (by decide +kernel)),if_neg (sne (a:="drawn") (b:="sent") (by decide +kernel))]
theorem LU (b q d e d':V):cD "drawn" d' (nj b q d e)=nj b q d' e:=by
 rw [jE,jE];simp only [cD,if_neg (sne (a:="boxes") (b:="drawn") (by decide +kernel)),if_neg (sne (a:="queues") (b:="drawn") (by decide +kernel)),if_true]
theorem LV (b q d e e':V):cD "sent" e' (nj b q d e)=nj b q d e':=by
 rw [jE,jE];simp only [cD,if_neg (sne (a:="boxes") (b:="sent") (by decide +kernel)),if_neg (sne (a:="queues") (b:="sent") (by decide +kernel)),if_neg (sne (a:="drawn") (b:="sent") (by decide +kernel)),if_true]
theorem IQ (b q d e:V):(nj b q d e).lookup ("boxes":Str)=some b:=by rw [jE,bO]
theorem IR (b q d e:V):(nj b q d e).lookup ("queues":Str)=some q:=by rw [jE,dB (by decide +kernel),bO]
theorem LW (b q d e:V):(nj b q d e).lookup ("drawn":Str)=some d:=by rw [jE,dB (by decide +kernel),dB (by decide +kernel),bO]
theorem LX (b q d e:V):(nj b q d e).lookup ("sent":Str)=some e:=by rw [jE,dB (by decide +kernel),dB (by decide +kernel),dB (by decide +kernel),bO]
theorem st_no (b q d e:V) {x:Str} (hx:(["boxes","queues","drawn","sent"]:List Str).contains x=false):(nj b q d e).lookup x=none:=by
 have z:∀ k∈(["boxes","queues","drawn","sent"]:List Str),(x == k)=false:=fun k hk=>beq_eq_false_iff_ne.mpr fun e=>by
  rw [e,jQ.mpr hk] at hx
  cases hx
 rw [jE,dB (z _ (by simp)),dB (z _ (by simp)),dB (z _ (by simp)),dB (z _ (by simp))];rfl
theorem FE (b q d e:V):(nj b q d e).length < 1000:=by
 rw [jE];show 4 < 1000;decide
theorem LY (m h:V) (st wd od:aa) (en:Bool) (rd ud:aa):(dF m h st wd od en rd ud).length < 1000:=by show 8 < 1000; decide
structure Lay where
 d:aa
 dx:aa
 st:aa
 dxs:aa
 bd:aa
 qd:aa
 wd:aa
 od:aa
 rd:aa
 ud:aa
 m:V
 hv:V
 qa:List (Str×aa)
def Lay.all (L:Lay):List aa:=L.d :: L.st :: L.bd :: L.qd :: L.wd :: L.od :: L.rd :: L.ud :: L.qa.map (·.2)
def gc (G:Hp):List (Str×aa)->List (Str×List Int)->Prop:=aP fun p q=>p.1=q.1/\G p.2=some (.lst (q.2.map V.int))
structure o8 (bs qs:List Str) (w:Wk):Prop where
 kb:w.bx.map (·.1)=bs
 kq:w.qu.map (·.1)=qs
 nb:bs.Nodup
 nq:qs.Nodup
 wb:∀ p∈w.bx,Wo p.2
 wq:∀ p∈w.qu,p.2.length<=30/\∀ n∈p.2,Wo n
 nw:w.wr.Nodup
 sw:∀ x∈w.wr,x∈bs++qs
 nu:w.qn.Nodup
 su:∀ x∈w.qn,x∈bs++qs
 wo:∀ e∈w.out,Wo e.a/\Wo e.b
 fw:(bs++qs).length < 100
structure Dg (CD CS:aa) (bs qs:List Str) (H0 G:Hp) (L:Lay) (h:Ev) (ds:List Int) (w:Wk):Prop where
 sm:bf H0 G
 hd:G L.d=some (.ins CD L.dx (dF L.m L.hv L.st L.wd L.od w.en L.rd L.ud))
 hst:G L.st=some (.ins CS L.dxs (nj (.ref L.bd) (.ref L.qd) (.int w.dr) (.int w.se)))
 hb:G L.bd=some (.dK (boK w.bx))
 hq:G L.qd=some (.dK (quK L.qa))
 hl:gc G L.qa w.qu
 hw:G L.wd=some (.dK (wrK w.wr))
 ho:∃ vs,G L.od=some (.lst vs)/\aP (gQ G) vs w.out
 hr:∃ rs,G L.rd=some (.lst rs)/\aP (FmI bs qs H0) rs w.rk
 hu:G L.ud=some (.dK (wrK w.qn))
 hh:gQ H0 L.hv h
 hm:∃ t x1 x2 x3 x4 dl,L.m=.ref t/\H0 t=some (.tup [x1,x2,x3,.ref dl,x4])/\H0 dl=some (.lst (ds.map V.int))
 nd:L.all.Nodup
 fr:∀ a∈L.all,H0 a=none
 ok:o8 bs qs w
 wt:Wo h.t
 wa:Wo h.a
 wb:Wo h.b
section
variable {CD CS:aa} {bs qs:List Str} {H0 G G':Hp} {L:Lay} {h:Ev} {ds:List Int} {w:Wk}
theorem gc.keep (k:∀ a u,G a=some u->a∈L.qa.map (·.2)->G' a=some u) {qa:List (Str×aa)} {qu:List (Str×List Int)} (sub:∀ p∈qa,p∈L.qa) (q:gc G qa qu):gc G' qa qu:=by
 unfold gc at q |-
 induction q with
 | nil=>exact .nil
 | cons a _ ih=>exact .cons ⟨a.1,k _ _ a.2 (cC.mpr ⟨_,sub _ ax,rfl⟩)⟩ (ih fun p hp=>sub p (ag _ hp))
theorem Paired.mono {α β:Type} {R S:α->β->Prop} (f:∀ a b,R a b->S a b) {xs:List α} {ys:List β} (r:aP R xs ys):aP S xs ys:=L2.Paired.imp' f r
theorem Dg.same (g:Dg CD CS bs qs H0 G L h ds w) (s:bf G G'):Dg CD CS bs qs H0 G' L h ds w:=by
 obtain ⟨vs,o1,o2⟩:=g.ho;obtain ⟨rs,r1,r2⟩:=g.hr;exact ⟨g.sm.trans s,s _ _ g.hd,s _ _ g.hst,s _ _ g.hb,s _ _ g.hq,g.hl.keep (L:=L) (fun a u e _=>s _ _ e) (fun _ hp=>hp),s _ _ g.hw,⟨vs,s _ _ o1,Paired.mono (fun _ _ z=>z.same s) o2⟩,⟨rs,s _ _ r1,r2⟩,s _ _ g.hu,g.hh,g.hm,g.nd,g.fr,g.ok,g.wt,g.wa,g.wb⟩
structure Lay.Ne (L:Lay):Prop where
 ds:L.d≠L.st
 db:L.d≠L.bd
 dq:L.d≠L.qd
 dw:L.d≠L.wd
 do_:L.d≠L.od
 dr:L.d≠L.rd
 du:L.d≠L.ud
 dl:∀ a∈L.qa.map (·.2),L.d≠a
 sb:L.st≠L.bd
 sq:L.st≠L.qd
 sw:L.st≠L.wd
 so:L.st≠L.od
 sr:L.st≠L.rd
 su:L.st≠L.ud
 sl:∀ a∈L.qa.map (·.2),L.st≠a
 bq:L.bd≠L.qd
 bw:L.bd≠L.wd
 bo:L.bd≠L.od
 br:L.bd≠L.rd
 bu:L.bd≠L.ud
 bl:∀ a∈L.qa.map (·.2),L.bd≠a
 qw:L.qd≠L.wd
 qo:L.qd≠L.od
 qr:L.qd≠L.rd
 qu:L.qd≠L.ud
 ql:∀ a∈L.qa.map (·.2),L.qd≠a
 wo:L.wd≠L.od
 wr:L.wd≠L.rd
 wu:L.wd≠L.ud
 wl:∀ a∈L.qa.map (·.2),L.wd≠a
 or:L.od≠L.rd
 ou:L.od≠L.ud
 ol:∀ a∈L.qa.map (·.2),L.od≠a
 ru:L.rd≠L.ud
 rl:∀ a∈L.qa.map (·.2),L.rd≠a
 ul:∀ a∈L.qa.map (·.2),L.ud≠a
 ll:(L.qa.map (·.2)).Nodup
theorem Lay.ne (nd:L.all.Nodup):L.Ne:=by
 unfold Lay.all at nd;have cut:∀ {a:aa} {xs:List aa},(a :: xs).Nodup->(∀ b∈xs,a≠b)/\xs.Nodup:=fun {a xs} z=>by
  obtain ⟨z1,z2⟩:=cF.mp z;exact ⟨fun b hb e=>z1 (by rw [e]; exact hb),z2⟩
 obtain ⟨a1,nd⟩:=cut nd;obtain ⟨a2,nd⟩:=cut nd;obtain ⟨a3,nd⟩:=cut nd;obtain ⟨a4,nd⟩:=cut nd;obtain ⟨a5,nd⟩:=cut nd;obtain ⟨a6,nd⟩:=cut nd;obtain ⟨a7,nd⟩:=cut nd;obtain ⟨a8,nd⟩:=cut nd;have i1:∀ {b:aa} {xs:List aa},b∈b :: xs:=ax;have i2:∀ {a b:aa} {xs:List aa},b∈xs->b∈a :: xs:=fun z=>ag _ z;exact ⟨a1 _ i1,a1 _ (i2 i1),a1 _ (i2 (i2 i1)),a1 _ (i2 (i2 (i2 i1))),a1 _ (i2 (i2 (i2 (i2 i1)))),a1 _ (i2 (i2 (i2 (i2 (i2 i1))))),a1 _ (i2 (i2 (i2 (i2 (i2 (i2 i1)))))),fun a ha=>a1 _ (i2 (i2 (i2 (i2 (i2 (i2 (i2 ha))))))),a2 _ i1,a2 _ (i2 i1),a2 _ (i2 (i2 i1)),a2 _ (i2 (i2 (i2 i1))),a2 _ (i2 (i2 (i2 (i2 i1)))),a2 _ (i2 (i2 (i2 (i2 (i2 i1))))),fun a ha=>a2 _ (i2 (i2 (i2 (i2 (i2 (i2 ha)))))),a3 _ i1,a3 _ (i2 i1),a3 _ (i2 (i2 i1)),a3 _ (i2 (i2 (i2 i1))),a3 _ (i2 (i2 (i2 (i2 i1)))),fun a ha=>a3 _ (i2 (i2 (i2 (i2 (i2 ha))))),a4 _ i1,a4 _ (i2 i1),a4 _ (i2 (i2 i1)),a4 _ (i2 (i2 (i2 i1))),fun a ha=>a4 _ (i2 (i2 (i2 (i2 ha)))),a5 _ i1,a5 _ (i2 i1),a5 _ (i2 (i2 i1)),fun a ha=>a5 _ (i2 (i2 (i2 ha))),a6 _ i1,a6 _ (i2 i1),fun a ha=>a6 _ (i2 (i2 ha)),a7 _ i1,fun a ha=>a7 _ (i2 ha),fun a ha=>a8 _ ha,nd⟩
theorem kY {a:aa} {o:HO} (nt:∀ xs,G a≠some (.tup xs)) {vs:List V} {es:List Ev} (r:aP (gQ G) vs es):aP (gQ (upd G a o)) vs es:=
 Paired.mono (fun v e z=>by
  obtain ⟨t,k,e1,h1,h2⟩:=z;refine ⟨t,k,e1,?_,?_⟩
  ·rw [aH fun y=>nt _ (by rw [<- y]; exact h1)];exact h1
  ·rw [aH fun y=>nt _ (by rw [<- y]; exact h2)];exact h2) r
theorem Dg.sm_upd (g:Dg CD CS bs qs H0 G L h ds w) {a:aa} (ha:a∈L.all) (o:HO):bf H0 (upd G a o):=fun b u e=>by
 rw [aH (av e (g.fr a ha))];exact g.sm _ _ e
theorem in_d:L.d∈L.all:=ax
theorem Kg:L.st∈L.all:=ag _ ax
theorem Kh:L.bd∈L.all:=ag _ (ag _ ax)
theorem in_qd:L.qd∈L.all:=ag _ (ag _ (ag _ ax))
theorem in_wd:L.wd∈L.all:=ag _ (ag _ (ag _ (ag _ ax)))
theorem Ki:L.od∈L.all:=ag _ (ag _ (ag _ (ag _ (ag _ ax))))
theorem in_rd:L.rd∈L.all:=ag _ (ag _ (ag _ (ag _ (ag _ (ag _ ax)))))
theorem in_ud:L.ud∈L.all:=ag _ (ag _ (ag _ (ag _ (ag _ (ag _ (ag _ ax))))))
theorem in_l {a:aa} (h:a∈L.qa.map (·.2)):a∈L.all:=ag _ (ag _ (ag _ (ag _ (ag _ (ag _ (ag _ (ag _ h)))))))
theorem aR {o o':HO} {a b:aa} (e:G a=some o) (n:a≠b):upd G b o' a=some o:=by rw [aH n]; exact e
theorem kZ {o:HO} {a:aa} (e:G a=some o) (n:∀ xs,o≠.tup xs):∀ xs,G a≠some (.tup xs):=fun xs z=>by
 rw [e] at z
 cases z;exact n xs rfl
theorem Dg.box (g:Dg CD CS bs qs H0 G L h ds w) {x:Str} {n:Int} (wn:Wo n):Dg CD CS bs qs H0 (upd G L.bd (.dK (boK (nv w.bx x n)))) L h ds {w with bx:=nv w.bx x n}:=by
 have N:=Lay.ne g.nd;obtain ⟨vs,o1,o2⟩:=g.ho;obtain ⟨rs,r1,r2⟩:=g.hr;refine ⟨g.sm_upd Kh _,aR g.hd N.db,aR g.hst N.sb,ah,aR g.hq N.bq.symm,g.hl.keep (L:=L) (fun a u e m=>aR e (N.bl a m).symm) (fun _ hp=>hp),aR g.hw N.bw.symm,⟨vs,aR o1 N.bo.symm,kY (kZ g.hb (fun _ z=>by cases z)) o2⟩,⟨rs,aR r1 N.br.symm,r2⟩,aR g.hu N.bu.symm,g.hh,g.hm,g.nd,g.fr,?_,g.wt,g.wa,g.wb⟩;obtain ⟨kb,kq,nb,nq,wb,wq,nw,sw,nu,su,wo,fw⟩:=g.ok;refine ⟨(w8 _ _ _).trans kb,kq,nb,nq,fun p hp=>?_,wq,nw,sw,nu,su,wo,fw⟩
 rcases zo hp with z | z
 ·exact wb p z
 ·rw [z];exact wn
theorem Bv {xs:List Str} {x:Str} (h:xs.Nodup):(lI xs x).Nodup:=by
 unfold lI
 by_cases c:x∈xs
 ·rw [if_pos c];exact h
 ·rw [if_neg c];refine gF.mpr ⟨h,by simp,fun a ha b hb=>?_⟩;rw [aD.mp hb];exact fun z=>c (by rw [<- z]; exact ha)
theorem zp {xs:List Str} {x y:Str} (h:y∈lI xs x):y∈xs\/y=x:=by
 unfold lI at h
 by_cases c:x∈xs
 ·rw [if_pos c] at h;exact .inl h
 ·rw [if_neg c] at h
  rcases cq.mp h with z | z
  ·exact .inl z
  ·exact .inr (aD.mp z)
theorem FF {xs:List Str}:∀ {ys:List Str},xs.Nodup->(∀ x∈xs,x∈ys)->xs.length<=ys.length:=by
 induction xs with
 | nil=>intro ys _ _; exact bT _
 | cons x xs ih =>
  intro ys nd s;obtain ⟨n1,n2⟩:=cF.mp nd;have hx:x∈ys:=s x ax;have:=ih (ys:=ys.erase x) n2 fun z hz=>(List.mem_erase_of_ne (fun e=>n1 (by rw [<- e]; exact hz))).mpr (s z (ag _ hz));rw [List.length_erase_of_mem hx] at this;have:=List.length_pos_of_mem hx;rw [aT];omega
theorem o8.few (k:o8 bs qs w):w.wr.length < 100:=jc (FF k.nw k.sw) k.fw
theorem o8.few2 (k:o8 bs qs w):w.qn.length < 100:=jc (FF k.nu k.su) k.fw
theorem Bw (xs:List Str):(wrK xs).length=xs.length:=ar _
theorem dY:1000 < aB:=by decide
theorem Dg.wrote (g:Dg CD CS bs qs H0 G L h ds w) {x:Str} (hx:x∈bs++qs):Dg CD CS bs qs H0 (upd G L.wd (.dK (wrK (lI w.wr x)))) L h ds {w with wr:=lI w.wr x}:=by
 have N:=Lay.ne g.nd;obtain ⟨vs,o1,o2⟩:=g.ho;obtain ⟨rs,r1,r2⟩:=g.hr;refine ⟨g.sm_upd in_wd _,aR g.hd N.dw,aR g.hst N.sw,aR g.hb N.bw,aR g.hq N.qw,g.hl.keep (L:=L) (fun a u e m=>aR e (N.wl a m).symm) (fun _ hp=>hp),ah,⟨vs,aR o1 N.wo.symm,kY (kZ g.hw (fun _ z=>by cases z)) o2⟩,⟨rs,aR r1 N.wr.symm,r2⟩,aR g.hu N.wu.symm,g.hh,g.hm,g.nd,g.fr,?_,g.wt,g.wa,g.wb⟩;obtain ⟨kb,kq,nb,nq,wb,wq,nw,sw,nu,su,wo,fw⟩:=g.ok;refine ⟨kb,kq,nb,nq,wb,wq,Bv nw,fun y hy=>?_,nu,su,wo,fw⟩
 rcases zp hy with z | z
 ·exact sw y z
 ·rw [z];exact hx
theorem gc.at_ {x:Str}:∀ {qa:List (Str×aa)} {qu:List (Str×List Int)},gc G qa qu->x∈qu.map (·.1)->∃ l,qa.lookup x=some l/\G l=some (.lst ((jo qu x).map V.int))/\l∈qa.map (·.2)
 | _,_,.nil,m=>by cases m
 |(k,l) :: qa,(k',xs) :: qu,.cons a b,m=>by
  obtain ⟨e,ha⟩:=a;dsimp only at e ha;subst e
  by_cases c:x=k
  ·subst c;refine ⟨l,bO,?_,ax⟩;unfold jo;rw [bO];exact ha
  ·have m':x∈qu.map (·.1):=by
    rcases au.mp m with z | z
    ·exact absurd z c
    ·exact z
   obtain ⟨l',h1,h2,h3⟩:=gc.at_ b m';refine ⟨l',?_,?_,ag _ h3⟩
   ·rw [cy,beq_eq_false_iff_ne.mpr c];exact h1
   ·unfold jo at h2 |-;rw [cy,beq_eq_false_iff_ne.mpr c];exact h2
theorem o9 {α:Type} {x:Str} {a:α}:∀ {ps:List (Str×α)},ps.lookup x=some a->(x,a)∈ps
 | [],h=>by cases h
 |(k,b) :: ps,h=>by
  by_cases c:x=k
  ·subst c;rw [bO] at h
   cases h;exact ax
  ·rw [cy,beq_eq_false_iff_ne.mpr c] at h;exact ag _ (o9 h)
theorem C7 {α:Type} {x:Str} {n:α} {ps:List (Str×α)} (h:x∉ps.map (·.1)):nv ps x n=ps:=by
 unfold nv;have:∀ p∈ps,(if p.1=x then (p.1,n) else p)=p:=fun p hp=>if_neg fun e=>h (cC.mpr ⟨p,hp,e⟩);rw [gO this];exact List.map_id _
theorem gc.set {x:Str} {l:aa} {ns:List Int}:∀ {qa:List (Str×aa)} {qu:List (Str×List Int)},gc G qa qu->(qa.map (·.2)).Nodup->(qu.map (·.1)).Nodup->qa.lookup x=some l->gc (upd G l (.lst (ns.map V.int))) qa (nv qu x ns)
 | _,_,.nil,_,_,e=>by cases e
 |(k,l0) :: qa,(k',xs) :: qu,.cons a b,nd,nk,e=>by
  obtain ⟨ek,ha⟩:=a;dsimp only at ek ha;subst ek;obtain ⟨n1,n2⟩:=cF.mp nd;obtain ⟨m1,m2⟩:=cF.mp nk
  by_cases c:x=k
  ·subst c;rw [bO] at e
   cases e;show gc _ _ ((if x=x then (x,ns) else (x,xs)) :: nv qu x ns);rw [if_pos rfl,C7 m1];refine .cons ⟨rfl,ah⟩ ?_;refine gc.keep (L:=⟨0,0,0,0,0,0,0,0,0,0,.non,.non,qa⟩) (G:=G) (fun a u e m=>aR e fun z=>n1 (by rw [<- z]; exact m)) (fun _ hp=>hp) b
  ·rw [cy,beq_eq_false_iff_ne.mpr c] at e;show gc _ _ ((if k=x then (k,ns) else (k,xs)) :: nv qu x ns);rw [if_neg fun z=>c z.symm];refine .cons ⟨rfl,aR ha fun z=>n1 ?_⟩ (gc.set b n2 m2 e);show l0∈qa.map (·.2);rw [show l0=l from z];exact cC.mpr ⟨_,o9 e,rfl⟩
theorem Dg.queue (g:Dg CD CS bs qs H0 G L h ds w) {x:Str} {l:aa} {ns:List Int} (hl:L.qa.lookup x=some l) (len:ns.length<=30) (wn:∀ n∈ns,Wo n):Dg CD CS bs qs H0 (upd G l (.lst (ns.map V.int))) L h ds {w with qu:=nv w.qu x ns}:=by
 have N:=Lay.ne g.nd;have ml:l∈L.qa.map (·.2):=cC.mpr ⟨_,o9 hl,rfl⟩;obtain ⟨vs,o1,o2⟩:=g.ho;obtain ⟨rs,r1,r2⟩:=g.hr;obtain ⟨kb,kq,nb,nq,wb,wq,nw,sw,nu,su,wo,fw⟩:=g.ok;have gl:∃ xs,G l=some (.lst xs):=by
  have key:∀ {qa:List (Str×aa)} {qu:List (Str×List Int)},gc G qa qu->l∈qa.map (·.2)->∃ xs,G l=some (.lst xs):=fun {qa qu} q=>by
   induction q with
   | nil=>intro m; cases m
   | cons a _ ih =>
    intro m
    rcases au.mp m with z | z
    ·rw [z];exact ⟨_,a.2⟩
    ·exact ih z
  exact key g.hl ml
 obtain ⟨xs,gl⟩:=gl;refine ⟨g.sm_upd (in_l ml) _,aR g.hd (N.dl l ml),aR g.hst (N.sl l ml),aR g.hb (N.bl l ml),aR g.hq (N.ql l ml),g.hl.set N.ll (by rw [kq]; exact nq) hl,aR g.hw (N.wl l ml),⟨vs,aR o1 (N.ol l ml),kY (kZ gl (fun _ z=>by cases z)) o2⟩,⟨rs,aR r1 (N.rl l ml),r2⟩,aR g.hu (N.ul l ml),g.hh,g.hm,g.nd,g.fr,?_,g.wt,g.wa,g.wb⟩;refine ⟨kb,(w8 _ _ _).trans kq,nb,nq,wb,fun p hp=>?_,nw,sw,nu,su,wo,fw⟩
 rcases zo hp with z | z
 ·exact wq p z
 ·rw [z];exact ⟨len,wn⟩
theorem Dg.counts (g:Dg CD CS bs qs H0 G L h ds w) (dr:Nat) (se:Int):Dg CD CS bs qs H0 (upd G L.st (.ins CS L.dxs (nj (.ref L.bd) (.ref L.qd) (.int dr) (.int se)))) L h ds {w with dr:=dr,se:=se}:=by
 have N:=Lay.ne g.nd;obtain ⟨vs,o1,o2⟩:=g.ho;obtain ⟨rs,r1,r2⟩:=g.hr;obtain ⟨kb,kq,nb,nq,wb,wq,nw,sw,nu,su,wo,fw⟩:=g.ok;exact ⟨g.sm_upd Kg _,aR g.hd N.ds,ah,aR g.hb N.sb.symm,aR g.hq N.sq.symm,g.hl.keep (L:=L) (fun a u e m=>aR e (N.sl a m).symm) (fun _ hp=>hp),aR g.hw N.sw.symm,⟨vs,aR o1 N.so.symm,kY (kZ g.hst (fun _ z=>by cases z)) o2⟩,⟨rs,aR r1 N.sr.symm,r2⟩,aR g.hu N.su.symm,g.hh,g.hm,g.nd,g.fr,⟨kb,kq,nb,nq,wb,wq,nw,sw,nu,su,wo,fw⟩,g.wt,g.wa,g.wb⟩
theorem Dg.sent (g:Dg CD CS bs qs H0 G L h ds w) {vs:List V} {v:V} {e:Ev} (hv:G L.od=some (.lst vs)) (he:gQ G v e) (we:Wo e.a/\Wo e.b):Dg CD CS bs qs H0 (upd G L.od (.lst (vs++[v]))) L h ds {w with out:=w.out++[e]}:=by
 have N:=Lay.ne g.nd;obtain ⟨vs',o1,o2⟩:=g.ho;obtain ⟨rs,r1,r2⟩:=g.hr;rw [hv] at o1
 cases o1;obtain ⟨kb,kq,nb,nq,wb,wq,nw,sw,nu,su,wo,fw⟩:=g.ok;refine ⟨g.sm_upd Ki _,aR g.hd N.do_,aR g.hst N.so,aR g.hb N.bo,aR g.hq N.qo,g.hl.keep (L:=L) (fun a u e m=>aR e (N.ol a m).symm) (fun _ hp=>hp),aR g.hw N.wo,⟨_,ah,?_⟩,⟨rs,aR r1 N.or.symm,r2⟩,aR g.hu N.ou.symm,g.hh,g.hm,g.nd,g.fr,⟨kb,kq,nb,nq,wb,wq,nw,sw,nu,su,fun x hx=>(cq.mp hx).elim (wo x) fun z=>by rw [aD.mp z]; exact we,fw⟩,g.wt,g.wa,g.wb⟩;exact kY (kZ hv (fun _ z=>by cases z)) (eD o2 he)
theorem Dg.ended (g:Dg CD CS bs qs H0 G L h ds w):Dg CD CS bs qs H0 (upd G L.d (.ins CD L.dx (dF L.m L.hv L.st L.wd L.od true L.rd L.ud))) L h ds {w with en:=true}:=by
 have N:=Lay.ne g.nd;obtain ⟨vs,o1,o2⟩:=g.ho;obtain ⟨rs,r1,r2⟩:=g.hr;obtain ⟨kb,kq,nb,nq,wb,wq,nw,sw,nu,su,wo,fw⟩:=g.ok;exact ⟨g.sm_upd in_d _,ah,aR g.hst N.ds.symm,aR g.hb N.db.symm,aR g.hq N.dq.symm,g.hl.keep (L:=L) (fun a u e m=>aR e (N.dl a m).symm) (fun _ hp=>hp),aR g.hw N.dw.symm,⟨vs,aR o1 N.do_.symm,kY (kZ g.hd (fun _ z=>by cases z)) o2⟩,⟨rs,aR r1 N.dr.symm,r2⟩,aR g.hu N.du.symm,g.hh,g.hm,g.nd,g.fr,⟨kb,kq,nb,nq,wb,wq,nw,sw,nu,su,wo,fw⟩,g.wt,g.wa,g.wb⟩
theorem Dg.reckoned (g:Dg CD CS bs qs H0 G L h ds w) {rs:List V} {v:V} {F:Fm} (hr:G L.rd=some (.lst rs)) (hF:FmI bs qs H0 v F):Dg CD CS bs qs H0 (upd G L.rd (.lst (rs++[v]))) L h ds {w with rk:=w.rk++[F]}:=by
 have N:=Lay.ne g.nd;obtain ⟨vs,o1,o2⟩:=g.ho;obtain ⟨rs',r1,r2⟩:=g.hr;rw [hr] at r1
 cases r1;obtain ⟨kb,kq,nb,nq,wb,wq,nw,sw,nu,su,wo,fw⟩:=g.ok;exact ⟨g.sm_upd in_rd _,aR g.hd N.dr,aR g.hst N.sr,aR g.hb N.br,aR g.hq N.qr,g.hl.keep (L:=L) (fun a u e m=>aR e (N.rl a m).symm) (fun _ hp=>hp),aR g.hw N.wr,⟨vs,aR o1 N.or,kY (kZ hr (fun _ z=>by cases z)) o2⟩,⟨_,ah,eD r2 hF⟩,aR g.hu N.ru.symm,g.hh,g.hm,g.nd,g.fr,⟨kb,kq,nb,nq,wb,wq,nw,sw,nu,su,wo,fw⟩,g.wt,g.wa,g.wb⟩
theorem Dg.queued (g:Dg CD CS bs qs H0 G L h ds w) {x:Str} (hx:x∈bs++qs):Dg CD CS bs qs H0 (upd G L.ud (.dK (wrK (lI w.qn x)))) L h ds {w with qn:=lI w.qn x}:=by
 have N:=Lay.ne g.nd;obtain ⟨vs,o1,o2⟩:=g.ho;obtain ⟨rs,r1,r2⟩:=g.hr;obtain ⟨kb,kq,nb,nq,wb,wq,nw,sw,nu,su,wo,fw⟩:=g.ok;refine ⟨g.sm_upd in_ud _,aR g.hd N.du,aR g.hst N.su,aR g.hb N.bu,aR g.hq N.qu,g.hl.keep (L:=L) (fun a u e m=>aR e (N.ul a m).symm) (fun _ hp=>hp),aR g.hw N.wu,⟨vs,aR o1 N.ou,kY (kZ g.hu (fun _ z=>by cases z)) o2⟩,⟨rs,aR r1 N.ru,r2⟩,ah,g.hh,g.hm,g.nd,g.fr,⟨kb,kq,nb,nq,wb,wq,nw,sw,Bv nu,fun y hy=>?_,wo,fw⟩,g.wt,g.wa,g.wb⟩
 rcases zp hy with z | z
 ·exact su y z
 ·rw [z];exact hx
theorem FG {x:Str} {ps:List (Str×Int)} (m:x∈ps.map (·.1)):jn (boK ps) (Sum.inr x)=some (.int (uZ ps x)):=by
 obtain ⟨a,h1,_⟩:=l9 m;have z:=qV V.int x ps;rw [h1] at z;unfold uZ;rw [h1];exact z
theorem FH {x:Str} {l:aa} {qa:List (Str×aa)} (m:qa.lookup x=some l):jn (quK qa) (Sum.inr x)=some (.ref l):=by
 have z:=qV V.ref x qa;rw [m] at z;exact z
theorem IS {x:Str} (k:o8 bs qs w) (m:x∈bs):Wo (uZ w.bx x):=by
 obtain ⟨a,h1,h2⟩:=l9 (ps:=w.bx) (x:=x) (by rw [k.kb]; exact m);unfold uZ;rw [h1];exact k.wb _ h2
theorem xZ {x:Str} (k:o8 bs qs w) (m:x∈qs):(jo w.qu x).length<=30/\∀ n∈jo w.qu x,Wo n:=by
 obtain ⟨a,h1,h2⟩:=l9 (ps:=w.qu) (x:=x) (by rw [k.kq]; exact m);unfold jo;rw [h1];exact k.wq _ h2
theorem Dg.asks (g:Dg CD CS bs qs H0 G L h ds w):(zm h w).Ok bs qs:=
 ⟨fun x m=>IS g.ok m,fun x m=>by
  have:=(xZ g.ok m).1;show (jo w.qu x).length<=1000;omega,g.wa,g.wb,g.wt⟩
theorem Dg.holds {K:af} (g:Dg CD CS bs qs H0 G L h ds w) {gl:aa} (hg:G gl=some (.lst [.int h.a,.int h.b])):Holds K CS bs qs G L.st gl (zm h w):=
 ⟨⟨L.dxs,L.bd,L.qd,_,_,_,g.hst,IQ _ _ _ _,IR _ _ _ _,g.hb,g.hq,fun x m=>FG (by rw [g.ok.kb]; exact m),fun x m=>by
  obtain ⟨l,h1,h2,_⟩:=g.hl.at_ (x:=x) (by rw [g.ok.kq]; exact m);exact ⟨l,_,FH h1,h2,ar _⟩⟩,hg⟩
end
end My
namespace L2
open PySem
theorem s9.own {X:Cx} {E:XK} (hb:s9 X E):PassesOwn (aX X.prog X.w) X.A X.env X.xe:=by
 rw [hb.xe];exact PassesOwn.leaving
end L2
namespace My
open PySem L2
structure Mt (K:af) (C:aa) (x qual:Str) (st:cV) (ps:List Str) (f:aa) (fd:bR):Prop where
 F:Fun K x qual st f fd
 b:Binds K fd ps []
 m:vK K C x f
structure FJ (K:af) (mg:Str->Option ae) (cf:Flt->aa):Prop where
 two:Fts K mg (cf .nought) (cf .great)
 mF:mg "Full"=some (.ref (cf .full))
 mD:mg "Dry"=some (.ref (cf .dry))
 mS:mg "Span"=some (.ref (cf .span))
 mL:mg "Late"=some (.ref (cf .late))
 xF:cY K (cf .full) oQ "ValueError.__new__"=true
 xD:cY K (cf .dry) oQ "ValueError.__new__"=true
 xS:cY K (cf .span) oQ "ValueError.__new__"=true
 xL:cY K (cf .late) oQ "ValueError.__new__"=true
def sh (cf:Flt->aa) (dg:Wk->Hp->Prop) (H0:Hp) (n:Nat) (r:Except Flt Wk) (Q:VK) (E:XK):Prop:=match r with
 | .ok w'=>∀ G',dg w' G'->w'.len<=n->Q .non G'
 | .error e=>∀ G',bf H0 G'->E (.ref (cf e)) none G'
theorem ko {cf:Flt->aa} {dg:Wk->Hp->Prop} {H0 G':Hp} {n:Nat} {h:Ev} {w:Wk} {f:Fm} {k:Wk->Int->Except Flt Wk} {Q0 Q:VK} {E:XK} (p:sh cf dg H0 n (rck h w f k) Q0 E) (s:bf H0 G')
  (hq:∀ r,ev (zm h w) f=.ok r->sh cf dg H0 n (k {w with rk:=w.rk++[f]} r) Q0 E->Q (.int r) G'):w6 (cf .nought) (cf .great) (ev (zm h w) f) Q E G':=by
 unfold rck at p
 cases e:ev (zm h w) f with
 | ok r =>
  rw [e] at p;exact hq r e p
 | nought =>
  rw [e] at p;exact p G' s
 | great =>
  rw [e] at p;exact p G' s
theorem AG {w:Wk} {F:Fm}:w.out.length + (w.rk++[F]).length<=w.len + 4:=by
 rw [aA];show _ + (_ + 1)<=w.out.length + w.rk.length + 4;omega
theorem IT {w:Wk} {F F1 F2:Fm} {e:Ev}:(w.out++[e]).length + (w.rk++[F]++[F1]++[F2]).length<=w.len + 4:=by
 rw [aA,aA,aA,aA];show _ + 1 + (_ + 1 + 1 + 1)<=w.out.length + w.rk.length + 4;omega
theorem IU {x:Str} {n:Int} {ps:List (Str×Int)} (m:x∈ps.map (·.1)):iE (boK ps) (Sum.inr x) (.int n)=boK (nv ps x n):=by
 obtain ⟨a,h1,_⟩:=l9 m;exact IM V.int x n (by rw [h1]; rfl)
theorem IV (ps:List (Str×Int)):(boK ps).length=ps.length:=ar _
section
variable {CD CS:aa} {bs qs:List Str} {H0 G G':Hp} {L:Lay} {h:Ev} {ds:List Int} {w:Wk}
theorem Dg.few (g:Dg CD CS bs qs H0 G L h ds w):(boK w.bx).length < aB/\(wrK w.wr).length < aB:=by
 have:=g.ok.few;have:=g.ok.fw;have:=dY;rw [IV,Bw];have e:=congrArg ja g.ok.kb;rw [ar] at e;rw [aA] at *;omega
theorem Dg.putB (g:Dg CD CS bs qs H0 G L h ds w) {x:Str} {n:Int} (m:x∈bs):qO G L.bd (.str x) (.int n) (upd G L.bd (.dK (boK (nv w.bx x n)))):=by
 have z:=qO.k (k:=Sum.inr x) (v:=.int n) g.hb g.few.1;rw [IU (by rw [g.ok.kb]; exact m)] at z;exact z
theorem Dg.putW (g:Dg CD CS bs qs H0 G L h ds w) (x:Str):qO G L.wd (.str x) (.bl true) (upd G L.wd (.dK (wrK (lI w.wr x)))):=by
 have z:=qO.k (k:=Sum.inr x) (v:=.bl true) g.hw g.few.2;rw [Bu] at z;exact z
theorem Dg.putU (g:Dg CD CS bs qs H0 G L h ds w) (x:Str):qO G L.ud (.str x) (.bl true) (upd G L.ud (.dK (wrK (lI w.qn x)))):=by
 have z:=qO.k (k:=Sum.inr x) (v:=.bl true) g.hu (by
  have:=g.ok.few2;have:=dY;rw [Bw];omega)
 rw [Bu] at z;exact z
theorem Dg.getL (g:Dg CD CS bs qs H0 G L h ds w) {x:Str} (m:x∈qs):∃ l,L.qa.lookup x=some l/\G l=some (.lst ((jo w.qu x).map V.int))/\nZ G L.qd (.str x) (some (.ref l)):=by
 obtain ⟨l,h1,h2,_⟩:=g.hl.at_ (x:=x) (by rw [g.ok.kq]; exact m);refine ⟨l,h1,h2,?_⟩;have z:=nZ.k (k:=Sum.inr x) g.hq;rw [FH h1] at z;exact z
end
section
variable {P:aJ} {w:bJ} {K:af} {mg:Str->Option ae} {base:cu} {f fN fR fF fW fT fD fL fQ CD CS CM:aa} {fd fdN fdR fdF fdW fdT fdD fdL fdQ:bR} {cf:Flt->aa} {bs qs:List Str}
inductive FK (CD CS:aa) (bs qs:List Str) (vs:List V) (H:Hp) (Q:VK) (_e:XK):Prop where
 | mk (H0:Hp) (L:Lay) (h:Ev) (ds:List Int) (w:Wk) (_:vs=[.ref L.d]) (_:Dg CD CS bs qs H0 H L h ds w) (_:Q (.int h.t) H):FK CD CS bs qs vs H Q _e
def FL (CD CS:aa) (bs qs:List Str):Sp:=fun vs H Q _e=>FK CD CS bs qs vs H Q _e
theorem scNw:bK ["self"] ["self"] (aL iV):={}
theorem FM (M:Mt K CD "now" "Doing.now" iV ["self"] f fd) (T:DT K mg CD):bA P w K mg base CX0 1 f fd ["self"] (FL CD CS bs qs):=by
 refine M.F.ok scNw (fun vs H Q E h=>?_) (fun cdv A outer s H vs Q E hr h=>?_)
 ·obtain ⟨H0,L,e,ds,w,rfl,_⟩:=h;rfl
 obtain ⟨H0,L,e,ds,w,rfl,g,q⟩:=h;obtain ⟨t,k,ev,h1,h2⟩:=g.hh;refine ⟨_,ay (bM (bU cz (bU cz (cO (pv 0) rfl) aw (fun _ _=>rfl)) aw (fun _ _=>rfl))),?_⟩;exact ⟨_,rfl,L.d,CD,L.dx,_,_,rfl,g.hd,T.cl,T.nH,IP _ _ _ _ _ _ _ _,t,_,_,_,ev,rfl,SqT.of (g.sm _ _ h1),rfl,k,_,_,_,rfl,rfl,SqT.of (g.sm _ _ h2),rfl,q⟩
inductive Bx (cf:Flt->aa) (CD CS:aa) (bs qs:List Str) (vs:List V) (H:Hp) (Q:VK) (E:XK):Prop where
 | mk (H0:Hp) (L:Lay) (h:Ev) (ds:List Int) (w:Wk) (v:V) (F:Fm) (_:vs=[.ref L.d,v]) (_:Dg CD CS bs qs H0 H L h ds w) (_:FmI bs qs H0 v F) (_:w.len < 400000) (_:∀ G',Dg CD CS bs qs H0 G' L h ds {w with rk:=w.rk++[F]}->w6 (cf .nought) (cf .great) (ev (zm h w) F) Q E G'):Bx cf CD CS bs qs vs H Q E
def sj (cf:Flt->aa) (CD CS:aa) (bs qs:List Str):Sp:=fun vs H Q E=>Bx cf CD CS bs qs vs H Q E
theorem scRk:bK ["self","formula"] ["self","formula"] (aL eU):={}
theorem iQ (M:Mt K CD "reckon" "Doing.reckon" eU ["self","formula"] f fd) (MN:Mt K CD "now" "Doing.now" iV ["self"] fN fdN) (DW:Df K mg "worth_of" kg ["formula","state","now","got"] fW fdW) (DT2:Df K mg "number_of_two" gv ["kind","first","second"] fT fdT) (DD:Df K mg "number_of_division" dU ["kind","first","second"] fD fdD)
  (DL:Df K mg "number_of_leaf" gb ["formula","state","now","got"] fL fdL) (T:DT K mg CD) (TF:FJ K mg cf) (TM:MdT K mg CM CS) (B:Bl mg):bA P w K mg base (CXo P w) 18 f fd ["self","formula"] (sj cf CD CS bs qs):=by
 have GN:bA P w K mg base CX0 1 fN fdN ["self"] (FL CD CS bs qs):=FM MN T;have GW:bA P w K mg base (CXo P w) 17 fW fdW ["formula","state","now","got"] (FA K CS (cf .nought) (cf .great) bs qs 15):=Ke DW DT2 DD DL TF.two TM B 15;refine M.F.okX scRk (fun vs H Q E h=>?_) (fun cdv A outer s H vs Q E hr h=>?_)
 ·obtain ⟨H0,L,e,ds,w,v,F,rfl,_⟩:=h;rfl
 obtain ⟨H0,L,e,ds,w,v,F,rfl,g,hF,fw,q⟩:=h;obtain ⟨t,k,eh,h1,h2⟩:=g.hh;have r1:c5 1 _:=hr.mono (by omega);obtain ⟨rs,r1',r2⟩:=g.hr;have g0:=g.reckoned r1' hF;refine ⟨_,aj (eI (lQ bZ cP cQ gY (cO (pv 0) rfl) (ao (pv 1) ai))) (ay (bM (aK GW hr rfl DW.m DW.F.kp DW.b .nil (dJ.passes fun _ _ _ z=>z) (ao (pv 1) (ao (cO (pv 0) rfl) (ao (iK (pv 0) T.cl MN.m GN r1 MN.b .nil bj) (ao (eS (ao (bU cz (cO (pv 0) rfl) aw (fun _ _=>rfl)) (ao (bU cz (cO (pv 0) rfl) aw (fun _ _=>rfl)) ai))) ai))))))),?_⟩;have rl:rs.length < aB:=by
  have z:rs.length=w.rk.length:=aZ r2;have:400000 < aB:=by decide
  have:w.out.length + w.rk.length < 400000:=fw;omega
 refine ⟨_,rfl,L.d,CD,L.dx,_,_,rfl,g.hd,T.cl,T.nR,dF_r _ _ _ _ _ _ _ _,.inl ⟨rfl,_,SqL.of r1'⟩,_,rfl,L.rd,_,_,rfl,rfl,r1',rl,?_⟩;refine ⟨_,rfl,_,rfl,L.d,CD,L.dx,_,_,rfl,g0.hd,T.cl,T.nS,vZ _ _ _ _ _ _ _ _,?_⟩;refine ⟨_,rfl,L.d,L.dx,_,rfl,g0.hd,nX _ _ _ _ _ _ _ _ (by decide +kernel),H0,L,e,ds,_,rfl,g0,?_⟩;refine ⟨_,rfl,L.d,CD,L.dx,_,_,rfl,g0.hd,T.cl,T.nH,IP _ _ _ _ _ _ _ _,t,_,_,_,eh,rfl,SqT.of (g0.sm _ _ h1),rfl,?_⟩;refine ⟨_,rfl,L.d,CD,L.dx,_,_,rfl,g0.hd,T.cl,T.nH,IP _ _ _ _ _ _ _ _,t,_,_,_,eh,rfl,SqT.of (g0.sm _ _ h1),rfl,?_⟩;refine ⟨lt2,fun l hl=>?_⟩;have s2:=aF hl (.lst [.int e.a,.int e.b]);have g2:=g0.same s2;exact ⟨v,F,L.st,l,zm e w,rfl,(hF.1.same g2.sm),hF.2,g2.holds ah,g2.asks,q _ g2⟩
inductive FN (CD CS:aa) (bs qs:List Str) (vs:List V) (H:Hp) (Q:VK) (_e:XK):Prop where
 | mk (H0:Hp) (L:Lay) (h:Ev) (ds:List Int) (w:Wk) (x:Str) (_:vs=[.ref L.d,.str x]) (_:Dg CD CS bs qs H0 H L h ds w) (_:x∈qs) (_:∀ G' l,Dg CD CS bs qs H0 G' L h ds {w with qn:=lI w.qn x}->L.qa.lookup x=some l->G' l=some (.lst ((jo w.qu x).map V.int))->Q (.ref l) G'):FN CD CS bs qs vs H Q _e
def FO (CD CS:aa) (bs qs:List Str):Sp:=fun vs H Q _e=>FN CD CS bs qs vs H Q _e
theorem scQo:bK ["self","name"] ["self","name"] (aL eK):={}
theorem FP (M:Mt K CD "queue_of" "Doing.queue_of" eK ["self","name"] f fd) (T:DT K mg CD) (TM:MdT K mg CM CS):bA P w K mg base CX0 1 f fd ["self","name"] (FO CD CS bs qs):=by
 refine M.F.ok scQo (fun vs H Q E h=>?_) (fun cdv A outer s H vs Q E hr h=>?_)
 ·obtain ⟨H0,L,e,ds,w,x,rfl,_⟩:=h;rfl
 obtain ⟨H0,L,e,ds,w,x,rfl,g,hx,q⟩:=h;have hu:=kQ hr;refine ⟨_,aj (jZ hu (cO (pv 0) rfl) (pv 1) oz rfl) (ay (bM (pO hu (cO (cO (pv 0) rfl) rfl) (pv 1) (fun _ _=>rfl)))),?_⟩;have g1:=g.queued (x:=x) (bD _ hx);obtain ⟨l,hl,gl,dl⟩:=g1.getL hx;refine ⟨_,rfl,L.d,CD,L.dx,_,_,rfl,g.hd,T.cl,T.nQ,dF_u _ _ _ _ _ _ _ _,_,rfl,L.ud,_,rfl,g.putU x,?_⟩;exact ⟨_,rfl,L.d,CD,L.dx,_,_,rfl,g1.hd,T.cl,T.nS,vZ _ _ _ _ _ _ _ _,L.st,CS,L.dxs,_,_,rfl,g1.hst,TM.clS,TM.nQ,IR _ _ _ _,_,rfl,L.qd,_,rfl,dl,q _ l g1 hl gl⟩
inductive By (CD CS:aa) (bs qs:List Str) (vs:List V) (H:Hp) (Q:VK) (_e:XK):Prop where
 | mk (H0:Hp) (L:Lay) (h:Ev) (ds:List Int) (w:Wk) (x:Str) (n:Int) (_:vs=[.ref L.d,.str x,.int n]) (_:Dg CD CS bs qs H0 H L h ds w) (_:x∈bs) (_:Wo n) (_:∀ G',Dg CD CS bs qs H0 G' L h ds (FC w x n)->Q .non G'):By CD CS bs qs vs H Q _e
def x5 (CD CS:aa) (bs qs:List Str):Sp:=fun vs H Q _e=>By CD CS bs qs vs H Q _e
theorem scFl:bK ["self","box","worth"] ["self","box","worth"] (aL gy):={}
theorem x6 (M:Mt K CD "fill" "Doing.fill" gy ["self","box","worth"] f fd) (T:DT K mg CD) (TM:MdT K mg CM CS):bA P w K mg base CX0 1 f fd ["self","box","worth"] (x5 CD CS bs qs):=by
 refine M.F.ok scFl (fun vs H Q E h=>?_) (fun cdv A outer s H vs Q E hr h=>?_)
 ·obtain ⟨H0,L,e,ds,w,x,n,rfl,_⟩:=h;rfl
 obtain ⟨H0,L,e,ds,w,x,n,rfl,g,hx,hn,q⟩:=h;have hu:=kQ hr;refine ⟨_,aj (jZ hu (cO (cO (pv 0) rfl) rfl) (pv 1) (pv 2) rfl) (ay (jZ hu (cO (pv 0) rfl) (pv 1) oz rfl)),?_⟩;have g1:=g.box (x:=x) hn;have g2:=g1.wrote (x:=x) (gE _ hx);refine ⟨_,rfl,_,rfl,L.d,CD,L.dx,_,_,rfl,g.hd,T.cl,T.nS,vZ _ _ _ _ _ _ _ _,L.st,CS,L.dxs,_,_,rfl,g.hst,TM.clS,TM.nB,IQ _ _ _ _,_,rfl,L.bd,_,rfl,g.putB hx,?_⟩;exact ⟨_,rfl,L.d,CD,L.dx,_,_,rfl,g1.hd,T.cl,T.nW,FD _ _ _ _ _ _ _ _,_,rfl,L.wd,_,rfl,g1.putW x,q _ g2⟩
inductive Bz (cf:Flt->aa) (CD CS:aa) (bs qs:List Str) (vs:List V) (H:Hp) (Q:VK) (E:XK):Prop where
 | mk (H0:Hp) (L:Lay) (h:Ev) (ds:List Int) (w:Wk) (x:Str) (v:V) (F:Fm) (_:vs=[.ref L.d,.str x,v]) (_:Dg CD CS bs qs H0 H L h ds w) (_:x∈qs) (_:FmI bs qs H0 v F) (_:w.len < 400000) (_:sh cf (fun w' G'=>Dg CD CS bs qs H0 G' L h ds w') H0 (w.len + 4) (doD h ds (.push x F) w) Q E):Bz cf CD CS bs qs vs H Q E
def AH (cf:Flt->aa) (CD CS:aa) (bs qs:List Str):Sp:=fun vs H Q E=>Bz cf CD CS bs qs vs H Q E
theorem LZ:bK ["doing","name","formula","worth","queue"] ["doing","name","formula"] (aL lU):={}
theorem x8 (D:Df K mg "do_push" lU ["doing","name","formula"] f fd) (MR:Mt K CD "reckon" "Doing.reckon" eU ["self","formula"] fR fdR) (GR:bA P w K mg base (CXo P w) 18 fR fdR ["self","formula"] (sj cf CD CS bs qs)) (MQ:Mt K CD "queue_of" "Doing.queue_of" eK ["self","name"] fQ fdQ) (T:DT K mg CD) (TF:FJ K mg cf) (TM:MdT K mg CM CS) (B:Bl mg) :
  bA P w K mg base (CXo P w) 19 f fd ["doing","name","formula"] (AH cf CD CS bs qs):=by
 have GQ:bA P w K mg base CX0 1 fQ fdQ ["self","name"] (FO CD CS bs qs):=FP MQ T TM;refine D.F.okX LZ (fun vs H Q E h=>?_) (fun cdv A outer s H vs Q E hr h=>?_)
 ·obtain ⟨H0,L,e,ds,w,x,v,F,rfl,_⟩:=h;rfl
 obtain ⟨H0,L,e,ds,w,x,v,F,rfl,g,hx,hF,fw,p⟩:=h;have hu:=kQ hr;have r1:c5 1 _:=hr.mono (by omega);refine ⟨_,aj (bC (i:=3) LZ.nd rfl (Or.inl rfl) (fJ (pv 0) T.cl MR.m GR hr MR.b .nil (dJ.passes fun _ _ _ z=>z) (ao (pv 2) ai)))
  (aj (bC (i:=4) LZ.nd rfl (Or.inl rfl) (fJ (pv 0) T.cl MQ.m GQ r1 MQ.b .nil bj (ao (pv 1) ai)))
  (aj (cS (bP JO (cL gP (by rfl) B.len cA (ao (pv 4) ai)) aw (cb _)) (ay (jK dJ rfl rfl TF.mF TF.xF (ao bX ai))) bY)
  (aj (eI (lQ bZ cP cQ gY (pv 4) (ao (pv 3) ai)))
  (ay (jZ hu (cO (pv 0) rfl) (pv 1) oz rfl))))),?_⟩
 simp only [doD] at p;refine ⟨_,rfl,L.d,L.dx,_,rfl,g.hd,nX _ _ _ _ _ _ _ _ (by decide +kernel),_,rfl,H0,L,e,ds,w,v,F,rfl,g,hF,fw,fun G0 g0=>?_⟩;refine ko p g0.sm fun n en p=>?_;dsimp only at p;refine ⟨_,rfl,L.d,L.dx,_,rfl,g0.hd,nX _ _ _ _ _ _ _ _ (by decide +kernel),_,rfl,H0,L,e,ds,_,x,rfl,g0,hx,fun G1 l g1 hl gl=>?_⟩;refine ⟨_,rfl,l,_,rfl,.inl (SqL.of gl),_,_,rfl,rfl,_,rfl,fV (fun c=>?_) (fun c=>?_)⟩
 ·have c:(30:Int)<=((((jo w.qu x).map V.int).length:Nat):Int):=jP c;rw [ar] at c;rw [if_pos (by omega)] at p;exact ⟨(by show 1<=aB; decide),p _ g1.sm⟩
 ·have c:¬ (30:Int)<=((((jo w.qu x).map V.int).length:Nat):Int):=jX c;rw [ar] at c;rw [if_neg (by omega)] at p;have wn:Wo n:=tD g1.asks (hF.1.same g1.sm) en;have gq:=xZ g1.ok hx;have g2:=g1.queue (x:=x) (l:=l) (ns:=jo w.qu x++[n]) hl (by rw [aA]; simp only [aT,cK]; omega) (fun m hm=>by
   rcases cq.mp hm with z | z
   ·exact gq.2 m z
   ·rw [aD.mp z];exact wn)
  have g3:=g2.wrote (x:=x) (bD _ hx);have lt:((jo w.qu x).map V.int).length < aB:=by
   rw [ar];have:=dY;omega
  refine ⟨_,rfl,.inl ⟨rfl,_,SqL.of gl⟩,_,rfl,l,_,_,rfl,rfl,gl,lt,?_⟩;have eq:(jo w.qu x).map V.int++[V.int n]=(jo w.qu x++[n]).map V.int:=by rw [cg]; rfl
  rw [eq];exact ⟨_,rfl,L.d,CD,L.dx,_,_,rfl,g2.hd,T.cl,T.nW,FD _ _ _ _ _ _ _ _,_,rfl,L.wd,_,rfl,g2.putW x,p _ g3 (AG (w:=w) (F:=F))⟩
end
theorem FQ (ds:List Int) (i:Nat) (h:i < ds.length):(ds.map V.int)[i]?=some (.int (ds.getD i 0)):=by
 rw [cI,aM h,dD,aM h];rfl
section
variable {P:aJ} {w:bJ} {K:af} {mg:Str->Option ae} {base:cu} {f fN fR fF CD CS CM:aa} {fd fdN fdR fdF:bR} {cf:Flt->aa} {bs qs:List Str}
inductive zq (cf:Flt->aa) (CD CS:aa) (bs qs:List Str) (vs:List V) (H:Hp) (Q:VK) (E:XK):Prop where
 | mk (H0:Hp) (L:Lay) (h:Ev) (ds:List Int) (w:Wk) (x:Str) (v:V) (F:Fm) (_:vs=[.ref L.d,.str x,v]) (_:Dg CD CS bs qs H0 H L h ds w) (_:x∈bs) (_:FmI bs qs H0 v F) (_:w.len < 400000) (_:sh cf (fun w' G'=>Dg CD CS bs qs H0 G' L h ds w') H0 (w.len + 4) (doD h ds (.draw x F) w) Q E):zq cf CD CS bs qs vs H Q E
def x9 (cf:Flt->aa) (CD CS:aa) (bs qs:List Str):Sp:=fun vs H Q E=>zq cf CD CS bs qs vs H Q E
theorem IW:bK ["doing","box","formula","divisor","draws","draw"] ["doing","box","formula"] (aL lW):={}
theorem vc (D:Df K mg "do_draw" lW ["doing","box","formula"] f fd) (MR:Mt K CD "reckon" "Doing.reckon" eU ["self","formula"] fR fdR) (GR:bA P w K mg base (CXo P w) 18 fR fdR ["self","formula"] (sj cf CD CS bs qs)) (MF:Mt K CD "fill" "Doing.fill" gy ["self","box","worth"] fF fdF) (T:DT K mg CD) (TF:FJ K mg cf) (TM:MdT K mg CM CS) (B:Bl mg) :
  bA P w K mg base (CXo P w) 19 f fd ["doing","box","formula"] (x9 cf CD CS bs qs):=by
 have GF:bA P w K mg base CX0 1 fF fdF ["self","box","worth"] (x5 CD CS bs qs):=x6 MF T TM;refine D.F.okX IW (fun vs H Q E h=>?_) (fun cdv A outer s H vs Q E hr h=>?_)
 ·obtain ⟨H0,L,e,ds,w,x,v,F,rfl,_⟩:=h;rfl
 obtain ⟨H0,L,e,ds,w,x,v,F,rfl,g,hx,hF,fw,p⟩:=h;have r1:c5 1 _:=hr.mono (by omega);refine ⟨_,aj (bC (i:=3) IW.nd rfl (Or.inl rfl) (fJ (pv 0) T.cl MR.m GR hr MR.b .nil (dJ.passes fun _ _ _ z=>z) (ao (pv 2) ai)))
  (aj (cS (bP p7 (pv 3) aw (cb _)) (ay (jK dJ rfl rfl TF.two.mN TF.two.xN (ao bX ai))) bY)
  (aj (bC (i:=4) IW.nd rfl (Or.inl rfl) (bU cz (cO (pv 0) rfl) aw (fun _ _=>rfl)))
  (aj (cS (rF (uH (pv 4) (fun _=>rfl))) (ay (jK dJ rfl rfl TF.mD TF.xD (ao bX ai))) bY)
  (aj (bC (i:=5) IW.nd rfl (Or.inl rfl) (bU dI (pv 4) (cT qp (cO (cO (pv 0) rfl) rfl) (cL gP (by rfl) B.len cA (ao (pv 4) ai))) (fun _ _=>rfl)))
  (aj (wA (cO (pv 0) rfl) aw Ez)
  (ay (eI (fJ (pv 0) T.cl MF.m GF r1 MF.b .nil bj (ao (pv 1) (ao (cT qp (pv 5) (pv 3)) ai)))))))))),?_⟩
 simp only [doD] at p;refine ⟨_,rfl,L.d,L.dx,_,rfl,g.hd,nX _ _ _ _ _ _ _ _ (by decide +kernel),_,rfl,H0,L,e,ds,w,v,F,rfl,g,hF,fw,fun G1 g1=>?_⟩;refine ko p g1.sm fun n en p=>?_;refine ⟨_,rfl,_,_,rfl,rfl,_,rfl,fV (fun c=>?_) (fun c=>?_)⟩
 ·rw [if_pos (jP c)] at p;exact ⟨(by show 1<=aB; decide),p _ g1.sm⟩
 have c:¬ n < 1:=jX c;rw [if_neg c] at p;obtain ⟨t,x1,x2,x3,x4,dl,em,hm,hdl⟩:=g1.hm;refine ⟨_,rfl,L.d,CD,L.dx,_,_,rfl,g1.hd,T.cl,T.nM,LQ _ _ _ _ _ _ _ _,t,_,_,_,em,rfl,SqT.of (g1.sm _ _ hm),rfl,?_⟩;have hdl1:=g1.sm _ _ hdl;refine ⟨_,rfl,_,.inl ⟨_,SqL.of hdl1,rfl⟩,?_⟩
 cases hds:ds with
 | nil =>
  rw [hds] at p;refine iL ?_;exact ⟨(by show 1<=aB; decide),p _ g1.sm⟩
 | cons d0 dr =>
  rw [<- hds];have ne:¬ ds=[]:=by rw [hds]; intro z; cases z
  have pos:0 < ds.length:=by rw [hds]; exact o7 _
  rw [if_neg ne] at p;have nb:(!(!(ds.map V.int).isEmpty))=false:=by rw [hds]; rfl
  rw [nb];refine fZ ?_;have lt:w.dr % ds.length < ds.length:=Nat.mod_lt _ pos;have ix:atI (ds.map V.int) ((w.dr:Int) % (((ds.map V.int).length:Nat):Int))=some (.int (ds.getD (w.dr % ds.length) 0)):=by
   rw [ar,<- Int.natCast_emod];exact jB (FQ ds _ lt)
  refine ⟨_,rfl,_,rfl,L.d,CD,L.dx,_,_,rfl,g1.hd,T.cl,T.nS,vZ _ _ _ _ _ _ _ _,L.st,CS,L.dxs,_,_,rfl,g1.hst,TM.clS,TM.nD,LW _ _ _ _,_,rfl,dl,_,rfl,.inl (SqL.of hdl1),_,_,rfl,rfl,(by rw [ar]; omega),dl,_,_,_,rfl,rfl,SqL.of hdl1,ix,?_⟩;refine ⟨_,rfl,L.d,CD,L.dx,_,_,rfl,g1.hd,T.cl,T.nS,vZ _ _ _ _ _ _ _ _,L.st,CS,L.dxs,_,_,rfl,g1.hst,TM.clS,TM.nD,LW _ _ _ _,_,_,rfl,rfl,L.dxs,_,g1.hst,FE _ _ _ _,?_⟩;rw [LU];have g2:=g1.counts (w.dr + 1) w.se;have wn:Wo n:=tD g1.asks (hF.1.same g1.sm) en;have wm:Wo (ds.getD (w.dr % ds.length) 0 % n):=by
   have a1:=kA (ds.getD (w.dr % ds.length) 0) (show n≠0 by omega);have a2:=jg (ds.getD (w.dr % ds.length) 0) (show 0 < n by omega);unfold Wo at wn |-;omega
  exact ⟨_,rfl,L.d,L.dx,_,rfl,g2.hd,nX _ _ _ _ _ _ _ _ (by decide +kernel),_,rfl,_,rfl,_,rfl,_,_,rfl,rfl,(by omega),H0,L,e,ds,_,x,_,rfl,g2,hx,wm,fun G' g3=>p G' g3 (AG (w:=w) (F:=F))⟩
inductive BA (cf:Flt->aa) (CD CS:aa) (bs qs:List Str) (vs:List V) (H:Hp) (Q:VK) (E:XK):Prop where
 | mk (H0:Hp) (L:Lay) (h:Ev) (ds:List Int) (w:Wk) (t:aa) (u u1 u2:V) (to:Int) (sg:Str) (rk:Int) (F F1 F2:Fm) (_:vs=[.ref L.d,.ref t]) (_:Dg CD CS bs qs H0 H L h ds w) (_:H0 t=some (.tup [.str "send",.int to,.str sg,u,.int rk,u1,u2])) (_:FmI bs qs H0 u F) (_:FmI bs qs H0 u1 F1) (_:FmI bs qs H0 u2 F2) (_:w.len + 4 < 400000) (_:sh cf (fun w' G'=>Dg CD CS bs qs H0 G' L h ds w') H0 (w.len + 4) (doD h ds (.send to sg F rk F1 F2) w) Q E):BA cf CD CS bs qs vs H Q E
def AI (cf:Flt->aa) (CD CS:aa) (bs qs:List Str):Sp:=fun vs H Q E=>BA cf CD CS bs qs vs H Q E
theorem C8:bK ["doing","deed","span","first","second","when","key"] ["doing","deed"] (aL lX):={}
theorem ya (D:Df K mg "do_send" lX ["doing","deed"] f fd) (MR:Mt K CD "reckon" "Doing.reckon" eU ["self","formula"] fR fdR) (GR:bA P w K mg base (CXo P w) 18 fR fdR ["self","formula"] (sj cf CD CS bs qs)) (MN:Mt K CD "now" "Doing.now" iV ["self"] fN fdN) (T:DT K mg CD) (TF:FJ K mg cf) (TM:MdT K mg CM CS) (B:Bl mg) :
  bA P w K mg base (CXo P w) 19 f fd ["doing","deed"] (AI cf CD CS bs qs):=by
 have GN:bA P w K mg base CX0 1 fN fdN ["self"] (FL CD CS bs qs):=FM MN T;refine D.F.okX C8 (fun vs H Q E h=>?_) (fun cdv A outer s H vs Q E hr h=>?_)
 ·obtain ⟨H0,L,e,ds,w,t,u,u1,u2,to,sg,rk,F,F1,F2,rfl,_⟩:=h;rfl
 obtain ⟨H0,L,e,ds,w,t,u,u1,u2,to,sg,rk,F,F1,F2,rfl,g,ht,hF,hF1,hF2,lo,p⟩:=h;have r1:c5 1 _:=hr.mono (by omega);refine ⟨_,aj (bC (i:=2) C8.nd rfl (Or.inl rfl) (fJ (pv 0) T.cl MR.m GR hr MR.b .nil (dJ.passes fun _ _ _ z=>z) (ao (bU cz (pv 1) aw (fun _ _=>rfl)) ai)))
  (aj (cS (A2 (bP p7 (pv 2) aw (cb _)) (xn (bP uE (pv 2) (cT rK aw aw) (cb _)))).pt (ay (jK dJ rfl rfl TF.mS TF.xS (ao bX ai))) bY)
  (aj (bC (i:=3) C8.nd rfl (Or.inl rfl) (fJ (pv 0) T.cl MR.m GR hr MR.b .nil (dJ.passes fun _ _ _ z=>z) (ao (bU cz (pv 1) aw (fun _ _=>rfl)) ai)))
  (aj (bC (i:=4) C8.nd rfl (Or.inl rfl) (fJ (pv 0) T.cl MR.m GR hr MR.b .nil (dJ.passes fun _ _ _ z=>z) (ao (bU cz (pv 1) aw (fun _ _=>rfl)) ai)))
  (aj (bC (i:=5) C8.nd rfl (Or.inl rfl) (cT gK (iK (pv 0) T.cl MN.m GN r1 MN.b .nil bj) (pv 2)))
  (aj (cS (bP uE (pv 5) (cT rK aw aw) (cb _)) (ay (jK dJ rfl rfl TF.mL TF.xL (ao bX ai))) bY)
  (aj (bC (i:=6) C8.nd rfl (Or.inl rfl) (dR (ao (pv 5) (ao (bU cz (pv 1) aw (fun _ _=>rfl)) (ao (bU cz (cO (pv 0) rfl) aw (fun _ _=>rfl)) (ao (cO (cO (pv 0) rfl) rfl) ai))))))
  (aj (wA (cO (pv 0) rfl) aw Ez)
  (ay (eI (lQ bZ cP cQ gY (cO (pv 0) rfl) (ao (dR (ao (pv 6) (ao (bU cz (pv 1) aw (fun _ _=>rfl)) (ao (bU cz (pv 1) aw (fun _ _=>rfl)) (ao (pv 3) (ao (pv 4) ai)))))) ai))))))))))),?_⟩
 simp only [doD] at p;have f0:w.len < 400000:=by omega
 have f1:Wk.len {w with rk:=w.rk++[F]} < 400000:=by
  show w.out.length + (w.rk++[F]).length < 400000;rw [aA];have:w.out.length + w.rk.length + 4 < 400000:=lo;show _ + (_ + 1) < _;omega
 have f2:Wk.len {w with rk:=w.rk++[F]++[F1]} < 400000:=by
  show w.out.length + (w.rk++[F]++[F1]).length < 400000;rw [aA,aA];have:w.out.length + w.rk.length + 4 < 400000:=lo;show _ + (_ + 1 + 1) < _;omega
 have l1:1<=aB:=by decide
 have c6:Cm 10 6:=⟨by decide,by decide,by decide⟩;have c12:Cm 10 12:=⟨by decide,by decide,by decide⟩;have tt:∀ {G:Hp},bf H0 G->SqT K G t [.str "send",.int to,.str sg,u,.int rk,u1,u2]:=fun {G} z=>SqT.of (z _ _ ht);refine ⟨_,rfl,L.d,L.dx,_,rfl,g.hd,nX _ _ _ _ _ _ _ _ (by decide +kernel),_,rfl,t,_,_,_,rfl,rfl,tt g.sm,rfl,H0,L,e,ds,w,u,F,rfl,g,hF,f0,fun G1 g1=>?_⟩;refine ko p g1.sm fun n en p=>?_;refine ⟨_,rfl,_,_,rfl,rfl,_,rfl,fV (fun c=>?_) (fun c=>?_)⟩
 ·rw [if_pos (.inl (jP c))] at p;exact iL ⟨l1,p _ g1.sm⟩
 have c:¬ n < 1:=jX c;refine ⟨_,rfl,_,_,rfl,rfl,c6,_,_,rfl,rfl,_,rfl,fV (fun c2=>?_) (fun c2=>?_)⟩
 ·rw [if_pos (.inr (jP c2))] at p;exact ⟨l1,p _ g1.sm⟩
 have c2:¬ 10 ^ 6 < n:=jX c2;rw [if_neg (fun z=>z.elim c c2)] at p;refine ⟨_,rfl,L.d,L.dx,_,rfl,g1.hd,nX _ _ _ _ _ _ _ _ (by decide +kernel),_,rfl,t,_,_,_,rfl,rfl,tt g1.sm,rfl,H0,L,e,ds,_,u1,F1,rfl,g1,hF1,f1,fun G2 g2=>?_⟩;refine ko p g2.sm fun n1 en1 p=>?_;refine ⟨_,rfl,L.d,L.dx,_,rfl,g2.hd,nX _ _ _ _ _ _ _ _ (by decide +kernel),_,rfl,t,_,_,_,rfl,rfl,tt g2.sm,rfl,H0,L,e,ds,_,u2,F2,rfl,g2,hF2,f2,fun G3 g3=>?_⟩;refine ko p g3.sm fun n2 en2 p=>?_;refine ⟨_,rfl,L.d,L.dx,_,rfl,g3.hd,nX _ _ _ _ _ _ _ _ (by decide +kernel),H0,L,e,ds,_,rfl,g3,_,rfl,_,_,rfl,rfl,?_⟩;refine ⟨_,rfl,_,_,rfl,rfl,c12,_,_,rfl,rfl,_,rfl,fV (fun c3=>?_) (fun c3=>?_)⟩
 ·rw [if_pos (show 10 ^ 12 < e.t + n from jP c3)] at p;exact ⟨l1,p _ g3.sm⟩
 rw [if_neg (show ¬ 10 ^ 12 < e.t + n from jX c3)] at p;obtain ⟨th,kh,eh,h1,h2⟩:=g3.hh;refine ⟨_,rfl,_,rfl,t,_,_,_,rfl,rfl,tt g3.sm,rfl,_,rfl,L.d,CD,L.dx,_,_,rfl,g3.hd,T.cl,T.nH,IP _ _ _ _ _ _ _ _,th,_,_,_,eh,rfl,SqT.of (g3.sm _ _ h1),rfl,_,rfl,L.d,CD,L.dx,_,_,rfl,g3.hd,T.cl,T.nS,vZ _ _ _ _ _ _ _ _,L.st,CS,L.dxs,_,_,rfl,g3.hst,TM.clS,TM.nS,LX _ _ _ _,(by show 4<=aB; decide),fun ky hk=>?_⟩;have s4:=aF hk (.tup [.int (e.t + n),.int rk,.int e.to,.int w.se]);have g4:=g3.same s4;refine ⟨_,rfl,L.d,CD,L.dx,_,_,rfl,g4.hd,T.cl,T.nS,vZ _ _ _ _ _ _ _ _,L.st,CS,L.dxs,_,_,rfl,g4.hst,TM.clS,TM.nS,LX _ _ _ _,_,_,rfl,rfl,L.dxs,_,g4.hst,FE _ _ _ _,?_⟩;rw [LV];have g5:=g4.counts w.dr (w.se + 1);have hky:∀ {G:Hp} {o o':HO},G ky=some (.tup [.int (e.t + n),.int rk,.int e.to,.int w.se])->G L.st=some o'->(∀ xs,o'≠.tup xs)->upd G L.st o ky=some (.tup [.int (e.t + n),.int rk,.int e.to,.int w.se]):=fun h1 h2 h3=>aR h1 (nF h1 h2 (fun z=>h3 _ z.symm));have k5:=hky (o:=.ins CS L.dxs (nj (.ref L.bd) (.ref L.qd) (.int w.dr) (.int (w.se + 1)))) (ah:upd G3 ky _ ky=_) g4.hst (fun xs z=>by cases z);obtain ⟨vs,o1,o2⟩:=g5.ho;refine ⟨_,rfl,L.d,CD,L.dx,_,_,rfl,g5.hd,T.cl,T.nO,dF_o _ _ _ _ _ _ _ _,.inl ⟨rfl,_,SqL.of o1⟩,?_⟩;refine ⟨_,rfl,_,rfl,t,_,_,_,rfl,rfl,tt g5.sm,rfl,_,rfl,t,_,_,_,rfl,rfl,tt g5.sm,rfl,_,rfl,_,rfl,lt5,fun ev hev=>?_⟩;have s6:=aF hev (.tup [.ref ky,.int to,.str sg,.int n1,.int n2]);have g6:=g5.same s6;have ol:vs.length < aB:=by
  have:=aZ o2;have z:vs.length=w.out.length:=this;have:400000 < aB:=by decide
  have:w.out.length + w.rk.length + 4 < 400000:=lo;omega
 refine ⟨L.od,vs,_,rfl,rfl,s6 _ _ o1,ol,?_⟩;have g7:=g6.sent (v:=.ref ev) (e:=⟨e.t + n,rk,e.to,w.se,to,sg,n1,n2⟩) (s6 _ _ o1) ⟨ev,ky,rfl,ah,s6 _ _ k5⟩ ⟨tD g1.asks (hF1.1.same g1.sm) en1,tD g2.asks (hF2.1.same g2.sm) en2⟩;exact p _ g7 (IT (w:=w) (F:=F) (F1:=F1) (F2:=F2))
end
mutual
def Dd.size:Dd->Nat
 | .pull _ _ o=>o.size + 1
 | .ife _ t e=>t.size + e.size + 1
 | _=>1
def Ds.size:Ds->Nat
 | .nil=>0
 | .cons d r=>d.size + r.size
end
theorem sh.le {cf:Flt->aa} {dg:Wk->Hp->Prop} {H0:Hp} {m n:Nat} {r:Except Flt Wk} {Q:VK} {E:XK} (p:sh cf dg H0 n r Q E) (h:m<=n):sh cf dg H0 m r Q E:=by
 cases r with
 | ok w=>exact fun G g l=>p G g (cZ l h)
 | error e=>exact p
section
variable {P:aJ} {w:bJ} {K:af} {mg:Str->Option ae} {base:cu} {f fR fF fP fD fU fW fS f1 fQ CD CS CM:aa} {fd fdR fdF fdP fdD fdU fdW fdS fd1 fdQ:bR} {cf:Flt->aa} {bs qs:List Str}
inductive FR (cf:Flt->aa) (CD CS:aa) (bs qs:List Str) (n:Nat) (vs:List V) (H:Hp) (Q:VK) (E:XK):Prop where
 | mk (H0:Hp) (L:Lay) (h:Ev) (ds:List Int) (w:Wk) (v:V) (D:Ds) (_:vs=[.ref L.d,v]) (_:Dg CD CS bs qs H0 H L h ds w) (_:kX H0 (eX bs qs H0 D) v) (_:D.deep < n) (_:w.len + 4 * D.size < 400000) (_:sh cf (fun w' G'=>Dg CD CS bs qs H0 G' L h ds w') H0 (w.len + 4 * D.size) (doS h ds D w) Q E):FR cf CD CS bs qs n vs H Q E
def vd (cf:Flt->aa) (CD CS:aa) (bs qs:List Str) (n:Nat):Sp:=fun vs H Q E=>FR cf CD CS bs qs n vs H Q E
inductive Kj (cf:Flt->aa) (CD CS:aa) (bs qs:List Str) (n:Nat) (vs:List V) (H:Hp) (Q:VK) (E:XK):Prop where
 | mk (H0:Hp) (L:Lay) (h:Ev) (ds:List Int) (w:Wk) (v:V) (D:Dd) (_:vs=[.ref L.d,v]) (_:Dg CD CS bs qs H0 H L h ds w) (_:eu bs qs H0 D v) (_:D.deep < n) (_:w.len + 4 * D.size < 400000) (_:sh cf (fun w' G'=>Dg CD CS bs qs H0 G' L h ds w') H0 (w.len + 4 * D.size) (doD h ds D w) Q E):Kj cf CD CS bs qs n vs H Q E
def spDd (cf:Flt->aa) (CD CS:aa) (bs qs:List Str) (n:Nat):Sp:=fun vs H Q E=>Kj cf CD CS bs qs n vs H Q E
inductive BB (cf:Flt->aa) (CD CS:aa) (bs qs:List Str) (n:Nat) (vs:List V) (H:Hp) (Q:VK) (E:XK):Prop where
 | mk (H0:Hp) (L:Lay) (h:Ev) (ds:List Int) (w:Wk) (q x:Str) (v:V) (D:Ds) (_:vs=[.ref L.d,.str q,.str x,v]) (_:Dg CD CS bs qs H0 H L h ds w) (_:q∈qs) (_:x∈bs) (_:kX H0 (eX bs qs H0 D) v) (_:D.deep < n) (_:w.len + 4 * D.size < 400000) (_:sh cf (fun w' G'=>Dg CD CS bs qs H0 G' L h ds w') H0 (w.len + 4 * D.size) (doD h ds (.pull q x D) w) Q E):BB cf CD CS bs qs n vs H Q E
def FS (cf:Flt->aa) (CD CS:aa) (bs qs:List Str) (n:Nat):Sp:=fun vs H Q E=>BB cf CD CS bs qs n vs H Q E
theorem scPl:bK ["doing","name","box","otherwise","queue"] ["doing","name","box","otherwise"] (aL lV):={}
theorem IX {n k:Nat} (hk:1<=k) (D:Df K mg "do_pull" lV ["doing","name","box","otherwise"] f fd) (DD:Df K mg "do_deeds" ic ["doing","deeds"] fD fdD) (GD:bA P w K mg base (CXo P w) k fD fdD ["doing","deeds"] (vd cf CD CS bs qs n)) (MF:Mt K CD "fill" "Doing.fill" gy ["self","box","worth"] fF fdF) (MQ:Mt K CD "queue_of" "Doing.queue_of" eK ["self","name"] fQ fdQ) (T:DT K mg CD) (TM:MdT K mg CM CS) :
  bA P w K mg base (CXo P w) (k + 1) f fd ["doing","name","box","otherwise"] (FS cf CD CS bs qs n):=by
 have GF:bA P w K mg base CX0 1 fF fdF ["self","box","worth"] (x5 CD CS bs qs):=x6 MF T TM;have GQ:bA P w K mg base CX0 1 fQ fdQ ["self","name"] (FO CD CS bs qs):=FP MQ T TM;refine D.F.okX scPl (fun vs H Q E h=>?_) (fun cdv A outer s H vs Q E hr h=>?_)
 ·obtain ⟨H0,L,e,ds,w,q,x,v,D,rfl,_⟩:=h;rfl
 obtain ⟨H0,L,e,ds,w,q,x,v,D,rfl,g,hq,hx,hv,hn,ho,p⟩:=h;have r1:c5 1 _:=hr.mono hk;have hu:=kQ hr;refine ⟨_,aj (bC (i:=4) scPl.nd rfl (Or.inl rfl) (fJ (pv 0) T.cl MQ.m GQ r1 MQ.b .nil bj (ao (pv 1) ai)))
  (ay (cS (uH (pv 4) (fun _=>rfl))
   (aj (eI (fJ (pv 0) T.cl MF.m GF r1 MF.b .nil bj (ao (pv 2) (ao (lQ bZ yG yH EK (pv 4) (ao aw ai)) ai))))
   (ay (jZ hu (cO (pv 0) rfl) (pv 1) oz rfl)))
   (ay (eI (aK GD hr rfl DD.m DD.F.kp DD.b .nil (dJ.passes fun _ _ _ z=>z) (ao (pv 0) (ao (pv 3) ai))))))),?_⟩
 simp only [doD] at p;refine ⟨_,rfl,L.d,L.dx,_,rfl,g.hd,nX _ _ _ _ _ _ _ _ (by decide +kernel),_,rfl,H0,L,e,ds,w,q,rfl,g,hq,fun G0 l g0 hl gl=>?_⟩;refine ⟨_,rfl,_,.inl ⟨_,SqL.of gl,rfl⟩,?_⟩;have gq:(jo w.qu q).length<=30/\∀ n∈jo w.qu q,Wo n:=xZ g.ok hq
 cases e1:jo w.qu q with
 | nil =>
  rw [e1] at p;refine fZ ?_;exact ⟨_,rfl,_,rfl,H0,L,e,ds,_,v,D,rfl,g0,hv,hn,ho,p⟩
 | cons m ms =>
  rw [e1] at p gl gq;refine iL ?_;have g1:=g0.queue (x:=q) (l:=l) (ns:=ms) hl (by have:=gq.1; rw [aT] at this; omega) (fun z hz=>gq.2 z (ag _ hz));refine ⟨_,rfl,L.d,L.dx,_,rfl,g0.hd,nX _ _ _ _ _ _ _ _ (by decide +kernel),_,rfl,_,rfl,.inl ⟨rfl,_,SqL.of gl⟩,l,_,_,0,.int m,rfl,rfl,gl,(by decide),(by decide),(xw (n:=((m :: ms).map V.int).length) (i:=0) (j:=0) (by unfold ixN; rw [if_pos (by decide),if_pos (by rw [ar,aT]; omega)]; rfl)).1,rfl,?_⟩;refine ⟨H0,L,e,ds,_,x,m,rfl,g1,hx,gq.2 m ax,fun G2 g2=>?_⟩;have g3:=g2.wrote (x:=q) (bD _ hq);exact ⟨_,rfl,L.d,CD,L.dx,_,_,rfl,g2.hd,T.cl,T.nW,FD _ _ _ _ _ _ _ _,_,rfl,L.wd,_,rfl,g2.putW q,p _ g3 (ve _ _)⟩
theorem scDd:bK ["doing","deed","kind"] ["doing","deed"] (aL lT):={}
theorem IY {n k:Nat} (hk:19<=k) (D:Df K mg "do_deed" lT ["doing","deed"] f fd) (DD:Df K mg "do_deeds" ic ["doing","deeds"] fD fdD) (GD:bA P w K mg base (CXo P w) k fD fdD ["doing","deeds"] (vd cf CD CS bs qs n))
  (MF:Mt K CD "fill" "Doing.fill" gy ["self","box","worth"] fF fdF) (MR:Mt K CD "reckon" "Doing.reckon" eU ["self","formula"] fR fdR) (GR:bA P w K mg base (CXo P w) 18 fR fdR ["self","formula"] (sj cf CD CS bs qs))
  (DP:Df K mg "do_pull" lV ["doing","name","box","otherwise"] fP fdP) (DU:Df K mg "do_push" lU ["doing","name","formula"] fU fdU) (GU:bA P w K mg base (CXo P w) 19 fU fdU ["doing","name","formula"] (AH cf CD CS bs qs))
  (DW:Df K mg "do_draw" lW ["doing","box","formula"] fW fdW) (GW:bA P w K mg base (CXo P w) 19 fW fdW ["doing","box","formula"] (x9 cf CD CS bs qs)) (DS:Df K mg "do_send" lX ["doing","deed"] fS fdS) (GS:bA P w K mg base (CXo P w) 19 fS fdS ["doing","deed"] (AI cf CD CS bs qs)) (MQ:Mt K CD "queue_of" "Doing.queue_of" eK ["self","name"] fQ fdQ) (T:DT K mg CD) (TM:MdT K mg CM CS) :
  bA P w K mg base (CXo P w) (k + 2) f fd ["doing","deed"] (spDd cf CD CS bs qs (n + 1)):=by
 have GF:bA P w K mg base CX0 1 fF fdF ["self","box","worth"] (x5 CD CS bs qs):=x6 MF T TM;have GP:bA P w K mg base (CXo P w) (k + 1) fP fdP ["doing","name","box","otherwise"] (FS cf CD CS bs qs n):=IX (by omega) DP DD GD MF MQ T TM;refine D.F.okX scDd (fun vs H Q E h=>?_) (fun cdv A outer s H vs Q E hr h=>?_)
 ·obtain ⟨H0,L,e,ds,w,v,D,rfl,_⟩:=h;rfl
 obtain ⟨H0,L,e,ds,w,v,D,rfl,g,hv,hn,ho,p⟩:=h;have r1:c5 1 _:=hr.mono (by omega);have r18:c5 18 _:=hr.mono (by omega);have r19:c5 19 _:=hr.mono (by omega);have rk:c5 k _:=hr.mono (by omega);refine ⟨_,aj (bC (i:=2) scDd.nd rfl (Or.inl rfl) (bU cz (pv 1) aw (fun _ _=>rfl)))
  (ay (cS (bP e7 (pv 2) bX (cb _)) (ay (eI (fJ (pv 0) T.cl MF.m GF r1 MF.b .nil bj (ao (bU cz (pv 1) aw (fun _ _=>rfl)) (ao (fJ (pv 0) T.cl MR.m GR r18 MR.b .nil (dJ.passes fun _ _ _ z=>z) (ao (bU cz (pv 1) aw (fun _ _=>rfl)) ai)) ai)))))
  (ay (cS (bP e7 (pv 2) bX (cb _)) (ay (eI (aK GU r19 rfl DU.m DU.F.kp DU.b .nil (dJ.passes fun _ _ _ z=>z) (ao (pv 0) (ao (bU cz (pv 1) aw (fun _ _=>rfl)) (ao (bU cz (pv 1) aw (fun _ _=>rfl)) ai))))))
  (ay (cS (bP e7 (pv 2) bX (cb _)) (ay (eI (aK GP hr rfl DP.m DP.F.kp DP.b .nil (dJ.passes fun _ _ _ z=>z) (ao (pv 0) (ao (bU cz (pv 1) aw (fun _ _=>rfl)) (ao (bU cz (pv 1) aw (fun _ _=>rfl)) (ao (bU cz (pv 1) aw (fun _ _=>rfl)) ai)))))))
  (ay (cS (bP e7 (pv 2) bX (cb _)) (ay (eI (aK GW r19 rfl DW.m DW.F.kp DW.b .nil (dJ.passes fun _ _ _ z=>z) (ao (pv 0) (ao (bU cz (pv 1) aw (fun _ _=>rfl)) (ao (bU cz (pv 1) aw (fun _ _=>rfl)) ai))))))
  (ay (cS (bP e7 (pv 2) bX (cb _)) (ay (eI (aK GS r19 rfl DS.m DS.F.kp DS.b .nil (dJ.passes fun _ _ _ z=>z) (ao (pv 0) (ao (pv 1) ai)))))
  (ay (cS (bP e7 (pv 2) bX (cb _)) (ay (eI (aK GD rk rfl DD.m DD.F.kp DD.b .nil (dJ.passes fun _ _ _ z=>z) (ao (pv 0) (ao (uB (bP JN (fJ (pv 0) T.cl MR.m GR r18 MR.b .nil (dJ.passes fun _ _ _ z=>z) (ao (bU cz (pv 1) aw (fun _ _=>rfl)) ai)) aw (cb _)) (bU cz (pv 1) aw (fun _ _=>rfl)) (bU cz (pv 1) aw (fun _ _=>rfl))) ai)))))
  (ay (cS (bP e7 (pv 2) bX (cb _)) (ay (d9 (pv 0) oz rfl)) bY)))))))))))))),?_⟩
 have no:∀ {m:Str},AF.contains m=false->(dF L.m L.hv L.st L.wd L.od w.en L.rd L.ud).lookup m=none:=fun z=>nX _ _ _ _ _ _ _ _ z;have nx:∀ {a b:Str} {p1 p2:Prop},(a == b)=false->p2->(if decide (V.str a=V.str b)=true then p1 else p2):=fun z q=>l8 (tP (sne z)) (fZ q);have yx:∀ {a:Str} {p1 p2:Prop},p1->(if decide (V.str a=V.str a)=true then p1 else p2):=fun q=>l8 (C5 _) (iL q);have fw:w.len < 400000:=by omega
 cases D with
 | put x F =>
  obtain ⟨t,u,rfl,ht,hx,hF⟩:=(by simpa only [eu] using hv);have tt:=SqT.of (K:=K) (g.sm _ _ ht);simp only [doD] at p;refine ⟨_,rfl,t,_,_,_,rfl,rfl,tt,rfl,_,rfl,rfl,_,rfl,yx ?_⟩;refine ⟨_,rfl,L.d,L.dx,_,rfl,g.hd,no (by decide +kernel),_,rfl,t,_,_,_,rfl,rfl,tt,rfl,?_⟩;refine ⟨_,rfl,L.d,L.dx,_,rfl,g.hd,no (by decide +kernel),_,rfl,t,_,_,_,rfl,rfl,tt,rfl,H0,L,e,ds,w,u,F,rfl,g,hF,fw,fun G1 g1=>?_⟩;refine ko p g1.sm fun m em p=>?_;exact ⟨H0,L,e,ds,_,x,m,rfl,g1,hx,tD g1.asks (hF.1.same g1.sm) em,fun G' g'=>p G' g' (AG (w:=w) (F:=F))⟩
 | push x F =>
  obtain ⟨t,u,rfl,ht,hx,hF⟩:=(by simpa only [eu] using hv);have tt:=SqT.of (K:=K) (g.sm _ _ ht);refine ⟨_,rfl,t,_,_,_,rfl,rfl,tt,rfl,_,rfl,rfl,_,rfl,nx (by decide +kernel) ?_⟩;refine ⟨_,rfl,rfl,_,rfl,yx ?_⟩;exact ⟨_,rfl,_,rfl,t,_,_,_,rfl,rfl,tt,rfl,_,rfl,t,_,_,_,rfl,rfl,tt,rfl,H0,L,e,ds,w,x,u,F,rfl,g,hx,hF,fw,p⟩
 | pull q x o =>
  obtain ⟨t,u,rfl,ht,hq,hx,hl⟩:=(by simpa only [eu] using hv);have tt:=SqT.of (K:=K) (g.sm _ _ ht);simp only [Dd.deep] at hn;simp only [Dd.size] at ho p;refine ⟨_,rfl,t,_,_,_,rfl,rfl,tt,rfl,_,rfl,rfl,_,rfl,nx (by decide +kernel) ?_⟩;refine ⟨_,rfl,rfl,_,rfl,nx (by decide +kernel) ?_⟩;refine ⟨_,rfl,rfl,_,rfl,yx ?_⟩;exact ⟨_,rfl,_,rfl,t,_,_,_,rfl,rfl,tt,rfl,_,rfl,t,_,_,_,rfl,rfl,tt,rfl,_,rfl,t,_,_,_,rfl,rfl,tt,rfl,H0,L,e,ds,w,q,x,u,o,rfl,g,hq,hx,hl,(by omega),(by omega),p.le (by omega)⟩
 | draw x F =>
  obtain ⟨t,u,rfl,ht,hx,hF⟩:=(by simpa only [eu] using hv);have tt:=SqT.of (K:=K) (g.sm _ _ ht);refine ⟨_,rfl,t,_,_,_,rfl,rfl,tt,rfl,_,rfl,rfl,_,rfl,nx (by decide +kernel) ?_⟩;refine ⟨_,rfl,rfl,_,rfl,nx (by decide +kernel) ?_⟩;refine ⟨_,rfl,rfl,_,rfl,nx (by decide +kernel) ?_⟩;refine ⟨_,rfl,rfl,_,rfl,yx ?_⟩;exact ⟨_,rfl,_,rfl,t,_,_,_,rfl,rfl,tt,rfl,_,rfl,t,_,_,_,rfl,rfl,tt,rfl,H0,L,e,ds,w,x,u,F,rfl,g,hx,hF,fw,p⟩
 | send to sg F rk F1 F2 =>
  obtain ⟨t,u,u1,u2,rfl,ht,hF,hF1,hF2⟩:=(by simpa only [eu] using hv);have tt:=SqT.of (K:=K) (g.sm _ _ ht);simp only [Dd.size] at ho p;refine ⟨_,rfl,t,_,_,_,rfl,rfl,tt,rfl,_,rfl,rfl,_,rfl,nx (by decide +kernel) ?_⟩;refine ⟨_,rfl,rfl,_,rfl,nx (by decide +kernel) ?_⟩;refine ⟨_,rfl,rfl,_,rfl,nx (by decide +kernel) ?_⟩;refine ⟨_,rfl,rfl,_,rfl,nx (by decide +kernel) ?_⟩;refine ⟨_,rfl,rfl,_,rfl,yx ?_⟩;exact ⟨_,rfl,_,rfl,H0,L,e,ds,w,t,u,u1,u2,to,sg,rk,F,F1,F2,rfl,g,ht,hF,hF1,hF2,(by omega),p⟩
 | ife F x y =>
  obtain ⟨t,u,u1,u2,rfl,ht,hF,hX,hY⟩:=(by simpa only [eu] using hv);simp only [Dd.deep] at hn;simp only [Dd.size] at ho p;simp only [doD] at p;have tt:=SqT.of (K:=K) (g.sm _ _ ht);refine ⟨_,rfl,t,_,_,_,rfl,rfl,tt,rfl,_,rfl,rfl,_,rfl,nx (by decide +kernel) ?_⟩;refine ⟨_,rfl,rfl,_,rfl,nx (by decide +kernel) ?_⟩;refine ⟨_,rfl,rfl,_,rfl,nx (by decide +kernel) ?_⟩;refine ⟨_,rfl,rfl,_,rfl,nx (by decide +kernel) ?_⟩;refine ⟨_,rfl,rfl,_,rfl,nx (by decide +kernel) ?_⟩;refine ⟨_,rfl,rfl,_,rfl,yx ?_⟩;refine ⟨_,rfl,_,rfl,L.d,L.dx,_,rfl,g.hd,no (by decide +kernel),_,rfl,t,_,_,_,rfl,rfl,tt,rfl,H0,L,e,ds,w,u,F,rfl,g,hF,fw,fun G1 g1=>?_⟩;have tt1:=SqT.of (K:=K) (g1.sm _ _ ht);have lw:Wk.len {w with rk:=w.rk++[F]}=w.len + 1:=by
   show w.out.length + (w.rk++[F]).length=w.out.length + w.rk.length + 1;rw [aA];rfl
  refine ko p g1.sm fun m em p=>?_;refine ⟨rfl,_,rfl,?_⟩
  by_cases c:m=0
  ·subst c;rw [if_pos rfl] at p;refine l8 (b:=false) rfl (fZ ?_);exact ⟨_,rfl,t,_,_,_,rfl,rfl,tt1,rfl,H0,L,e,ds,_,u2,y,rfl,g1,hY,(by omega),(by rw [lw]; omega),p.le (by rw [lw]; omega)⟩
  ·rw [if_neg c] at p;refine l8 (b:=true) (by rw [decide_eq_false (fun z=>c (xY z))]; rfl) (iL ?_);exact ⟨_,rfl,t,_,_,_,rfl,rfl,tt1,rfl,H0,L,e,ds,_,u1,x,rfl,g1,hX,(by omega),(by rw [lw]; omega),p.le (by rw [lw]; omega)⟩
 | fin =>
  obtain ⟨t,rfl,ht⟩:=(by simpa only [eu] using hv);have tt:=SqT.of (K:=K) (g.sm _ _ ht);simp only [doD] at p;refine ⟨_,rfl,t,_,_,_,rfl,rfl,tt,rfl,_,rfl,rfl,_,rfl,nx (by decide +kernel) ?_⟩;refine ⟨_,rfl,rfl,_,rfl,nx (by decide +kernel) ?_⟩;refine ⟨_,rfl,rfl,_,rfl,nx (by decide +kernel) ?_⟩;refine ⟨_,rfl,rfl,_,rfl,nx (by decide +kernel) ?_⟩;refine ⟨_,rfl,rfl,_,rfl,nx (by decide +kernel) ?_⟩;refine ⟨_,rfl,rfl,_,rfl,nx (by decide +kernel) ?_⟩;refine ⟨_,rfl,rfl,_,rfl,yx ?_⟩;refine ⟨_,rfl,L.d,CD,L.dx,_,rfl,g.hd,T.cl,T.nE,LY _ _ _ _ _ _ _ _,?_⟩;rw [LS];exact p _ g.ended (ve _ _)
theorem scDs:bK ["doing","deeds","deed"] ["doing","deeds"] (aL ic):={}
theorem C9 {n k:Nat} (D:Df K mg "do_deeds" ic ["doing","deeds"] f fd) (D1:Df K mg "do_deed" lT ["doing","deed"] f1 fd1) (G1:bA P w K mg base (CXo P w) k f1 fd1 ["doing","deed"] (spDd cf CD CS bs qs n)) :
  bA P w K mg base (CXo P w) (k + 1) f fd ["doing","deeds"] (vd cf CD CS bs qs n):=by
 refine D.F.okX scDs (fun vs H Q E h=>?_) (fun cdv A outer s H vs Q E hr h=>?_)
 ·obtain ⟨H0,L,e,ds,w,v,D,rfl,_⟩:=h;rfl
 obtain ⟨H0,L,e,ds,w,v,D,rfl,g,⟨l,vs,rfl,hl,hlen,hD⟩,hn,ho,p⟩:=h;refine ⟨_,ay (i5 dJ.own rfl (i0 (pv 1)) (dQ (i:=2) scDs.nd rfl (Or.inl rfl)) (ay (eI (aK G1 hr rfl D1.m D1.F.kp D1.b .nil (dJ.passes fun _ _ _ z=>z) (ao (pv 0) (ao (pv 2) ai)))))),?_⟩;refine ⟨_,rfl,l,rfl,⟨_,SqL.of (g.sm _ _ hl)⟩,jG (K:=K) (a:=l) (xs:=vs) (fun i σ G=>∃ (D':Ds) (w':Wk) (u:Option V),σ=[some (.ref L.d),some (.ref l),u]/\Dg CD CS bs qs H0 G L e ds w'/\eX bs qs H0 D' (vs.drop i)/\D'.deep < n/\w'.len + 4 * D'.size<=w.len + 4 * D.size /\
  sh cf (fun w' G'=>Dg CD CS bs qs H0 G' L e ds w') H0 (w.len + 4 * D.size) (doS e ds D' w') Q E) ⟨D,w,none,rfl,g,hD,hn,aC _,p⟩ ?_ ?_ ?_⟩
 ·rintro i σ G _ ⟨D',w',u,rfl,g',_⟩;exact SqL.of (g'.sm _ _ hl)
 ·rintro i x σ G hi ⟨D',w',u,rfl,g',hD',hn',ho',p'⟩;have lt:i < vs.length:=(aE.mp hi).1;have hx:vs[i]=x:=(aE.mp hi).2;rw [yb lt,hx] at hD'
  cases D' with
  | nil =>
   simp only [eX] at hD'
   cases hD'
  | cons d r =>
   obtain ⟨v0,vr,ev,hd,hr'⟩:=(by simpa only [eX] using hD')
   cases ev;simp only [Ds.deep] at hn';simp only [Ds.size] at ho';refine ⟨_,rfl,_,rfl,H0,L,e,ds,w',x,d,rfl,g',hd,(by omega),(by omega),?_⟩;simp only [doS] at p'
   cases ed:doD e ds d w' with
   | error er =>
    rw [ed] at p';exact p'
   | ok w2 =>
    rw [ed] at p';intro G2 g2 l2;exact ⟨r,w2,_,rfl,g2,hr',(by omega),(by omega),p'⟩
 ·rintro σ G ⟨D',w',u,rfl,g',hD',hn',ho',p'⟩;rw [HA] at hD'
  cases D' with
  | nil =>
   simp only [doS] at p';exact p' G g' (by omega)
  | cons d r =>
   obtain ⟨v0,vr,ev,_⟩:=(by simpa only [eX] using hD')
   cases ev
theorem qW (D:Df K mg "do_deeds" ic ["doing","deeds"] f fd) (D1:Df K mg "do_deed" lT ["doing","deed"] f1 fd1)
  (MF:Mt K CD "fill" "Doing.fill" gy ["self","box","worth"] fF fdF) (MR:Mt K CD "reckon" "Doing.reckon" eU ["self","formula"] fR fdR) (GR:bA P w K mg base (CXo P w) 18 fR fdR ["self","formula"] (sj cf CD CS bs qs))
  (DP:Df K mg "do_pull" lV ["doing","name","box","otherwise"] fP fdP) (DU:Df K mg "do_push" lU ["doing","name","formula"] fU fdU) (GU:bA P w K mg base (CXo P w) 19 fU fdU ["doing","name","formula"] (AH cf CD CS bs qs))
  (DW:Df K mg "do_draw" lW ["doing","box","formula"] fW fdW) (GW:bA P w K mg base (CXo P w) 19 fW fdW ["doing","box","formula"] (x9 cf CD CS bs qs)) (DS:Df K mg "do_send" lX ["doing","deed"] fS fdS) (GS:bA P w K mg base (CXo P w) 19 fS fdS ["doing","deed"] (AI cf CD CS bs qs)) (MQ:Mt K CD "queue_of" "Doing.queue_of" eK ["self","name"] fQ fdQ) (T:DT K mg CD) (TM:MdT K mg CM CS) :
  ∀ n:Nat,bA P w K mg base (CXo P w) (20 + 3 * n) f fd ["doing","deeds"] (vd cf CD CS bs qs n)
 | 0=>by
  have no:∀ vs H Q E,¬ vd cf CD CS bs qs 0 vs H Q E:=fun vs H Q E h=>by
   obtain ⟨H0,L,e,ds,w,v,D,_,_,_,hn,_⟩:=h;omega
  exact ⟨fun vs H Q E h=>absurd h (no vs H Q E),fun A outer s H args us vs Q E _ _ _ _ h=>absurd h (no vs H Q E)⟩
 | n + 1=>C9 D D1 (IY (n:=n) (k:=20 + 3 * n) (by omega) D1 D (qW D D1 MF MR GR DP DU GU DW GW DS GS MQ T TM n) MF MR GR DP DU GU DW GW DS GS MQ T TM)
end
end My
namespace L2
open PySem PySem.Spec PyProof.Rows
theorem AJ {X:Cx}:jH X (.type "dict") (fun xs H Q=>∃ d kvs,xs=[V.ref d]/\H d=some (.dK kvs)/\∀ p,H p=none->Q (.ref p) (upd H p (.dK kvs))):=by
 intro pins s σ H xs us Q I r h;obtain ⟨d,kvs,rfl,hd,q⟩:=h;obtain ⟨u,rfl,ru⟩:=vals1 r
 cases ru;obtain ⟨hz,n1,ws,k1,m1⟩:=(show eB X.prog X.w H s.heap d (.dK kvs) from I.hok d _ hd);refine kt_call_dict (knd:=eM X.prog X.w) n1 m1 (by rw [<- k1.length]; exact hz) fun h' hn sb=>?_;have kk:∀ b o,s.heap.get? b=some o->h'.get? b=some o:=fun b o e=>(sb.2 b (aO (aN e))).trans (aI _ e);exact ⟨.ref s.heap.objs.size,_,I.laid (a:=s.heap.objs.size) (o:=.dK kvs) (t':=s.toks) kk (aC _) (xH hz (beq_eq_false_iff_ne.mpr (fj (aO I.big))) k1 hn),rfl,q _ (I.hok.fresh (aC _))⟩
end L2
namespace My
open PySem L2
def jq (CS:aa) (H:Hp) (st:aa) (bx:List (Str×Int)) (qu:List (Str×List Int)) (dr:Nat) (se:Int):Prop:=
 ∃ dx bd qd qa,H st=some (.ins CS dx (nj (.ref bd) (.ref qd) (.int dr) (.int se)))/\H bd=some (.dK (boK bx))/\H qd=some (.dK (quK qa))/\gc H qa qu
theorem gc.same {G G':Hp} (s:bf G G') {qa:List (Str×aa)} {qu:List (Str×List Int)} (q:gc G qa qu):gc G' qa qu:=
 gc.keep (L:=⟨0,0,0,0,0,0,0,0,0,0,.non,.non,qa⟩) (fun a u e _=>s _ _ e) (fun _ h=>h) q
theorem jq.same {CS:aa} {H H':Hp} (s:bf H H') {st:aa} {bx:List (Str×Int)} {qu:List (Str×List Int)} {dr:Nat} {se:Int} (h:jq CS H st bx qu dr se):jq CS H' st bx qu dr se:=by
 obtain ⟨dx,bd,qd,qa,h1,h2,h3,h4⟩:=h;exact ⟨dx,bd,qd,qa,s _ _ h1,s _ _ h2,s _ _ h3,h4.same s⟩
structure FT (CS:aa) (H G:Hp) (st:aa) (bx:List (Str×Int)) (qu:List (Str×List Int)) (dr:Nat) (se:Int) (dxs bd qd:aa) (qa:List (Str×aa)):Prop where
 sm:bf H G
 hst:G st=some (.ins CS dxs (nj (.ref bd) (.ref qd) (.int dr) (.int se)))
 hb:G bd=some (.dK (boK bx))
 hq:G qd=some (.dK (quK qa))
 hl:gc G qa qu
 nd:(st :: bd :: qd :: qa.map (·.2)).Nodup
 fr:∀ a∈st :: bd :: qd :: qa.map (·.2),H a=none
inductive BC (CS:aa) (vs:List V) (H:Hp) (Q:VK) (_e:XK):Prop where
 | mk (st:aa) (bx:List (Str×Int)) (qu:List (Str×List Int)) (dr:Nat) (se:Int) (_:vs=[.ref st]) (_:jq CS H st bx qu dr se) (_:(qu.map (·.1)).Nodup) (_:qu.length < 100) (_:∀ (G:Hp) (st' dxs bd qd:aa) (qa:List (Str×aa)),FT CS H G st' bx qu dr se dxs bd qd qa->Q (.ref st') G):BC CS vs H Q _e
def AK (CS:aa):Sp:=fun vs H Q _e=>BC CS vs H Q _e
theorem IZ {qa:List (Str×aa)} {x:Str} {l:aa} (h:x∉qa.map (·.1)):iE (quK qa) (Sum.inr x) (.ref l)=quK (qa++[(x,l)]):=by
 have e:qa.lookup x=none:=by
  cases z:qa.lookup x with
  | none=>rfl
  | some a=>exact absurd (cC.mpr ⟨_,o9 z,rfl⟩) h
 unfold iE;have v:jn (quK qa) (Sum.inr x)=none:=by
  have z:=qV V.ref x qa;rw [e] at z;exact z
 rw [jJ,v];show (if false=true then _ else _)=_;rw [if_neg (by decide)];unfold quK;rw [cg];rfl
theorem BD (qa:List (Str×aa)):(quK qa).length=qa.length:=ar _
theorem gc.len {G:Hp} {qa:List (Str×aa)} {qu:List (Str×List Int)} (q:gc G qa qu):qa.length=qu.length:=aZ q
theorem gc.nm {G:Hp}:∀ {qa:List (Str×aa)} {qu:List (Str×List Int)},gc G qa qu->qa.map (·.1)=qu.map (·.1)
 | _,_,.nil=>rfl
 | _ :: _,_ :: _,.cons a b=>by rw [bQ,bQ,a.1,gc.nm b]
theorem gc.nth {G:Hp}:∀ {qa:List (Str×aa)} {qu:List (Str×List Int)} {i:Nat} {p:Str×aa},gc G qa qu->qa[i]?=some p->∃ q,qu[i]?=some q/\p.1=q.1/\G p.2=some (.lst (q.2.map V.int))
 | _,_,i,p,.nil,h=>by simp at h
 | _ :: _,_ :: _,0,p,.cons a b,h=>by
  simp at h;subst h;exact ⟨_,rfl,a.1,a.2⟩
 | _ :: _,_ :: _,i + 1,p,.cons a b,h=>by
  obtain ⟨q,h1,h2⟩:=gc.nth (i:=i) (p:=p) b (by simpa using h);exact ⟨q,by simpa using h1,h2⟩
section
variable {P:aJ} {w:bJ} {K:af} {mg:Str->Option ae} {base:cu} {f fI CD CS CM:aa} {fd fdI:bR}
theorem I9:bK ["self","queues","name","worths"] ["self"] (aL iy):={}
theorem qX (F:Fun K "copy" "State.copy" iy f fd) (MS:Mk K CS fI) (FI:Fun K "__init__" "State.__init__" jd fI fdI) (bI:Binds K fdI ["self","boxes","queues","drawn","sent"] []) (B:Bl mg) (T:MdT K mg CM CS) :
  bA P w K mg base CX0 3 f fd ["self"] (AK CS):=by
 have GI:bA P w K mg base CX0 1 fI fdI ["self","boxes","queues","drawn","sent"] (LL CS):=J6 FI T;refine F.ok I9 (fun vs H Q E h=>?_) (fun cdv A outer s H vs Q E hr h=>?_)
 ·obtain ⟨st,bx,qu,dr,se,rfl,_⟩:=h;rfl
 obtain ⟨st,bx,qu,dr,se,rfl,⟨dx,bd,qd,qa,hst,hb,hq,hl⟩,ndq,lq,k⟩:=h;have hu:=kQ hr;refine ⟨_,aj (bC (i:=1) I9.nd rfl (Or.inl rfl) oO)
  (aj (Bo (i5 cR rfl (zc (cO (pv 0) rfl)) (uC rfl (iJ (dQ (i:=2) I9.nd rfl (Or.inl rfl)) (iJ (dQ (i:=3) I9.nd rfl (Or.inl rfl)) qI))) (ay (jZ hu (pv 1) (pv 2) (gL mP (by rfl) B.list boot_list (ao (pv 3) ai)) rfl))))
  (ay (bM (jA MS GI hr (by rfl) T.mS bI .nil bj (ao (gL AJ (by rfl) B.dict boot_dict (ao (cO (pv 0) rfl) ai)) (ao (pv 1) (ao (cO (pv 0) rfl) (ao (cO (pv 0) rfl) ai)))))))),?_⟩
 intro d hd;have s1:bf H (upd H d (.dK [])):=aF hd _;have nf:∀ (ob:Obj) (u:HO),H qd≠some (.frz ob u):=fun ob u z=>by
  rw [hq] at z
  cases z
 have ndd:d≠qd:=(av hq hd).symm;have nlq:(qa.map (·.1)).Nodup:=by
  rw [hl.nm];exact ndq
 refine ⟨_,rfl,st,CS,dx,_,_,rfl,s1 _ _ hst,T.clS,T.nQ,IR _ _ _ _,qd,_,rfl,s1 _ _ hq,nf,fun od=>?_⟩;refine wV (d:=qd) (od:=od) (kvs:=quK qa) (fun i σ G=>∃ (v2 v3:Option V) (qa':List (Str×aa)),σ=[some (.ref st),some (.ref d),v2,v3]/\G qd=some (.frz od (.dK (quK qa)))/\(∀ b o,H b=some o->b≠qd->G b=some o)/\G d=some (.dK (quK qa')) /\
  gc G qa' (qu.take i)/\(qa'.map (·.2)).Nodup/\∀ a∈qa'.map (·.2),H a=none/\a≠d) ⟨none,none,[],rfl,ah,fun b o e n=>?_,?_,?_,iC,fun a h=>by cases h⟩ ?_ ?_ ?_
 ·rw [aH n];exact s1 _ _ e
 ·rw [aH ndd];exact ah
 ·rw [jt];exact .nil
 ·rintro i σ G _ ⟨_,_,_,_,h1,_⟩;exact h1
 ·rintro i kv t σ G hi ⟨v2,v3,qa',rfl,g1,g2,g3,g4,g5,g6⟩ ht;obtain ⟨p,hp,rfl⟩:∃ p,qa[i]?=some p/\kv=((Sum.inr p.1:Key),V.ref p.2):=by
   unfold quK at hi;rw [cI] at hi
   cases z:qa[i]? with
   | none =>
    rw [z] at hi
    cases hi
   | some p =>
    rw [z] at hi
    cases hi;exact ⟨p,rfl,rfl⟩
  obtain ⟨q,hq1,hq2,hq3⟩:=hl.nth hp;have st_:=aF ht (.tup [kV (Sum.inr p.1),.ref p.2]);have npq:p.2≠qd:=nF hq3 hq (by intro z; cases z);refine ⟨t,_,rfl,SqT.of ah,rfl,_,_,rfl,_,_,rfl,rfl,?_⟩;refine ⟨_,rfl,p.2,_,rfl,.inl (SqL.of (st_ _ _ (g2 _ _ hq3 npq))),fun l hl'=>?_⟩;have sl:=aF hl' (.lst (q.2.map V.int));have gd2:=sl _ _ (st_ _ _ g3);have lti:i < qu.length:=(aE.mp hq1).1;have tk:(qu.take (i + 1))=qu.take i++[q]:=by
   rw [e9,hq1];rfl
  have nin:p.1∉qa'.map (·.1):=by
   rw [g4.nm,hq2];intro z;have nd2:((qu.take (i + 1)).map (·.1)).Nodup:=by
    rw [yI];exact ndq.sublist (lP _ _)
   rw [tk,cg] at nd2;exact (gF.mp nd2).2.2 _ z q.1 (by simp) rfl
  have len':(quK qa').length < aB:=by
   have z:=g4.len;rw [df] at z;rw [BD];have:=dY;omega
  have dp:=qO.k (k:=Sum.inr p.1) (v:=.ref l) gd2 len';rw [IZ nin] at dp;refine ⟨_,rfl,_,rfl,d,_,rfl,dp,?_⟩;have nlG:G l=none:=by
   cases z:G l with
   | none=>rfl
   | some o =>
    have:=st_ _ _ z;rw [hl'] at this
    cases this
  have nl0:H l=none:=by
   cases z:H l with
   | none=>rfl
   | some o =>
    by_cases c:l=qd
    ·rw [c,g1] at nlG
     cases nlG
    ·rw [g2 _ _ z c] at nlG
     cases nlG
  have nld:l≠d:=fun z=>by rw [z,g3] at nlG; cases nlG
  refine ⟨_,_,qa'++[(p.1,l)],rfl,?_,fun b o e n=>?_,ah,?_,?_,fun a ha=>?_⟩
  ·rw [aH ndd.symm];exact sl _ _ (st_ _ _ g1)
  ·rw [aH (av e hd)];exact sl _ _ (st_ _ _ (g2 _ _ e n))
  ·rw [tk];have old:gc (upd (upd (upd G t (.tup [kV (Sum.inr p.1),.ref p.2])) l (.lst (q.2.map V.int))) d (.dK (quK (qa'++[(p.1,l)])))) qa' (qu.take i):=
    gc.keep (L:=⟨0,0,0,0,0,0,0,0,0,0,.non,.non,qa'⟩) (fun a u e m=>aR (sl _ _ (st_ _ _ e)) (g6 a m).2) (fun _ h=>h) g4
   exact eD old ⟨hq2,aR ah nld⟩
  ·rw [cg];refine gF.mpr ⟨g5,by simp,fun a ha b hb=>?_⟩;rw [aD.mp hb];intro z;obtain ⟨pp,hpp,e⟩:=cC.mp ha;obtain ⟨j,hj⟩:=dM hpp;obtain ⟨_,_,_,y⟩:=g4.nth hj;rw [e,z,nlG] at y
   cases y
  ·rw [cg] at ha
   rcases cq.mp ha with z | z
   ·exact g6 a z
   ·rw [aD.mp z];exact ⟨nl0,nld⟩
 ·rintro σ G ⟨v2,v3,qa',rfl,g1,g2,g3,g4,g5,g6⟩;rw [BD,hl.len,dZ] at g4;refine ⟨qd,od,_,g1,nf,?_⟩;have sH:bf H (upd G qd (.dK (quK qa))):=fun b o e=>by
   by_cases c:b=qd
   ·rw [c,ah];rw [c,hq] at e;exact e
   ·rw [aH c];exact g2 _ _ e c
  have g3':upd G qd (.dK (quK qa)) d=some (.dK (quK qa')):=aR g3 ndd;have g4':gc (upd G qd (.dK (quK qa))) qa' qu:=
   gc.keep (L:=⟨0,0,0,0,0,0,0,0,0,0,.non,.non,qa'⟩) (fun a u e m=>aR e (av hq (g6 a m).1).symm) (fun _ h=>h) g4
  generalize upd G qd (.dK (quK qa))=G2 at sH g3' g4';refine ⟨_,rfl,st,CS,dx,_,_,rfl,sH _ _ hst,T.clS,T.nB,IQ _ _ _ _,bd,_,rfl,sH _ _ hb,fun e he=>?_⟩;have s3:=aF he (.dK (boK bx));refine ⟨_,rfl,_,rfl,st,CS,dx,_,_,rfl,s3 _ _ (sH _ _ hst),T.clS,T.nD,LW _ _ _ _,_,rfl,st,CS,dx,_,_,rfl,s3 _ _ (sH _ _ hst),T.clS,T.nS,LX _ _ _ _,?_⟩;intro x dx' nx ndx nex;refine ⟨x,dx',_,_,_,_,rfl,ah,fun H' hx bt=>⟨rfl,?_⟩⟩;have sm:bf (upd G2 e (.dK (boK bx))) H':=fun b o e2=>by
   have cx:b≠x:=av e2 nx;refine bt b o ?_ cx;rw [aH cx,aH (av e2 ndx)];exact e2
  have sm2:=s3.trans sm;have fresh:∀ {a:aa},upd G2 e (.dK (boK bx)) a=none->H a=none:=fun {a} z=>by
   cases y:H a with
   | none=>rfl
   | some o =>
    rw [s3 _ _ (sH _ _ y)] at z
    cases z
  have he0:H e=none:=by
   cases y:H e with
   | none=>rfl
   | some o =>
    rw [sH _ _ y] at he
    cases he
  refine k H' x dx' e d qa' ⟨sH.trans sm2,hx,sm _ _ ah,sm2 _ _ g3',g4'.same sm2,?_,?_⟩
  ·have nx_e:x≠e:=(av (ah:upd G2 e (.dK (boK bx)) e=_) nx).symm;have nx_d:x≠d:=(av (s3 _ _ g3') nx).symm;have ne_d:e≠d:=(av g3' he).symm;have ql:∀ a∈qa'.map (·.2),∃ o,G2 a=some o:=fun a ha=>by
    obtain ⟨pp,hpp,e⟩:=cC.mp ha;obtain ⟨j,hj⟩:=dM hpp;obtain ⟨_,_,_,y⟩:=g4'.nth hj;rw [<- e];exact ⟨_,y⟩
   refine cF.mpr ⟨fun z=>?_,cF.mpr ⟨fun z=>?_,cF.mpr ⟨fun z=>(g6 d z).2 rfl,g5⟩⟩⟩
   ·rcases au.mp z with z | z
    ·exact nx_e z
    ·rcases au.mp z with z | z
     ·exact nx_d z
     ·obtain ⟨o,y⟩:=ql x z;exact (av (s3 _ _ y) nx) rfl
   ·rcases au.mp z with z | z
    ·exact ne_d z
    ·obtain ⟨o,y⟩:=ql e z;exact (av y he) rfl
  ·intro a ha
   rcases au.mp ha with z | z
   ·rw [z];exact fresh nx
   ·rcases au.mp z with z | z
    ·rw [z];exact he0
    ·rcases au.mp z with z | z
     ·rw [z];exact hd
     ·exact (g6 a z).1
end
theorem Dg.base {CD CS:aa} {bs qs:List Str} {H0 H0' G G':Hp} {L:Lay} {h:Ev} {ds:List Int} {w:Wk} (g:Dg CD CS bs qs H0 G L h ds w) (s:bf G G') (s0:bf H0 H0') (s1:bf H0' G') (fr:∀ a∈L.all,H0' a=none):Dg CD CS bs qs H0' G' L h ds w:=by
 obtain ⟨t,x1,x2,x3,x4,dl,em,hm,hdl⟩:=g.hm;have g':=g.same s;obtain ⟨rs,r1,r2⟩:=g'.hr;exact ⟨s1,g'.hd,g'.hst,g'.hb,g'.hq,g'.hl,g'.hw,g'.ho,⟨rs,r1,Paired.mono (fun _ _ z=>z.same s0) r2⟩,g'.hu,g.hh.same s0,⟨t,x1,x2,x3,x4,dl,em,s0 _ _ hm,s0 _ _ hdl⟩,g.nd,fr,g.ok,g.wt,g.wa,g.wb⟩
theorem gc.there {G:Hp} {qa:List (Str×aa)} {qu:List (Str×List Int)} (q:gc G qa qu) {a:aa} (h:a∈qa.map (·.2)):∃ xs,G a=some (.lst xs):=by
 obtain ⟨pp,hpp,e⟩:=cC.mp h;obtain ⟨j,hj⟩:=dM hpp;obtain ⟨_,_,_,y⟩:=q.nth hj;rw [<- e];exact ⟨_,y⟩
theorem Dg.there {CD CS:aa} {bs qs:List Str} {H0 G:Hp} {L:Lay} {h:Ev} {ds:List Int} {w:Wk} (g:Dg CD CS bs qs H0 G L h ds w):∀ a∈L.all,∃ o,G a=some o:=fun a ha=>by
 obtain ⟨vs,o1,_⟩:=g.ho;obtain ⟨rs,r1,_⟩:=g.hr;unfold Lay.all at ha;simp only [au] at ha
 rcases ha with rfl | rfl | rfl | rfl | rfl | rfl | rfl | rfl | ha
 ·exact ⟨_,g.hd⟩
 ·exact ⟨_,g.hst⟩
 ·exact ⟨_,g.hb⟩
 ·exact ⟨_,g.hq⟩
 ·exact ⟨_,g.hw⟩
 ·exact ⟨_,o1⟩
 ·exact ⟨_,r1⟩
 ·exact ⟨_,g.hu⟩
 ·obtain ⟨xs,e⟩:=g.hl.there ha;exact ⟨_,e⟩
def Da (bs qs:List Str) (H:Hp) (v:V) (p:Str×Ds):Prop:=∃ t u,v=.ref t/\H t=some (.tup [.str p.1,u])/\kX H (eX bs qs H p.2) u
def jh (hs:List (Str×Ds)) (sg:Str):Ds:=(hs.lookup sg).getD .nil
theorem Da.same {bs qs:List Str} {H H':Hp} (s:bf H H') {v:V} {p:Str×Ds} (h:Da bs qs H v p):Da bs qs H' v p:=by
 obtain ⟨t,u,e,h1,h2⟩:=h;exact ⟨t,u,e,s _ _ h1,h2.same s (eX.same s p.2)⟩
section
variable {P:aJ} {w:bJ} {K:af} {mg:Str->Option ae} {base:cu} {f fC fI CD CS CM:aa} {fd fdC fdI:bR} {bs qs:List Str}
theorem fv {G:Hp} {a b:aa} {o:HO} (h:upd G a o b=none):b≠a/\G b=none:=by
 by_cases c:b=a
 ·rw [c,ah] at h
  cases h
 ·rw [aH c] at h;exact ⟨c,h⟩
theorem zt {G:Hp} {d wd od rd ud a:aa} {i3 i4 i6 i7 i8 o:HO} (hwd:G wd=none) (hod:G od=none) (hrd:G rd=none) (hud:G ud=none) (e:G a=some o) (n:a≠d):upd (upd (upd (upd (upd (upd (upd (upd (upd G d i3) wd (.dK [])) d i4) od (.lst [])) d i6) rd (.lst [])) d i7) ud (.dK [])) d i8 a=some o:=
 aR (aR (aR (aR (aR (aR (aR (aR (aR e n) (av e hwd)) n) (av e hod)) n) (av e hrd)) n) (av e hud)) n
inductive Kk (CD CS:aa) (bs qs:List Str) (vs:List V) (H:Hp) (Q:VK) (_e:XK):Prop where
 | mk (H0:Hp) (d dx st:aa) (m hv:V) (h:Ev) (ds:List Int) (bx:List (Str×Int)) (qu:List (Str×List Int)) (dr:Nat) (se:Int) (_:vs=[.ref d,m,.ref st,hv]) (_:H d=some (.ins CD dx [])) (_:H0 d=none) (_:bf H0 H) (_:jq CS H0 st bx qu dr se) (_:gQ H0 hv h) (_:(∃ t x1 x2 x3 x4 dl,m=.ref t/\H0 t=some (.tup [x1,x2,x3,.ref dl,x4])/\H0 dl=some (.lst (ds.map V.int)))) (_:o8 bs qs ⟨bx,qu,dr,se,[],[],false,[],[]⟩) (_:Wo h.t) (_:Wo h.a) (_:Wo h.b) (_:∀ (G:Hp) (L:Lay),L.d=d->L.m=m->Dg CD CS bs qs H0 G L h ds ⟨bx,qu,dr,se,[],[],false,[],[]⟩->Q .non G):Kk CD CS bs qs vs H Q _e
def L7 (CD CS:aa) (bs qs:List Str):Sp:=fun vs H Q _e=>Kk CD CS bs qs vs H Q _e
theorem scDI:bK ["self","machine","state","happening"] ["self","machine","state","happening"] (aL m5):={}
theorem FU (F:Fun K "__init__" "Doing.__init__" m5 f fd) (MC:Mt K CS "copy" "State.copy" iy ["self"] fC fdC) (GC:bA P w K mg base CX0 3 fC fdC ["self"] (AK CS)) (T:DT K mg CD) (TM:MdT K mg CM CS):bA P w K mg base CX0 4 f fd ["self","machine","state","happening"] (L7 CD CS bs qs):=by
 refine F.ok scDI (fun vs H Q E h=>?_) (fun cdv A outer s H vs Q E hr h=>?_)
 ·obtain ⟨H0,d,dx,st,m,hv,h,ds,bx,qu,dr,se,rfl,_⟩:=h;rfl
 obtain ⟨H0,d,dx,st,m,hv,h,ds,bx,qu,dr,se,rfl,hd,nd0,s0,hS,hE,hM,ok,wt,wa,wb,k⟩:=h;refine ⟨_,aj (d9 (pv 0) (pv 1) rfl) (aj (d9 (pv 0) (pv 3) rfl) (aj (d9 (pv 0) (iK (pv 2) TM.clS MC.m GC hr MC.b .nil bj) rfl) (aj (d9 (pv 0) oO rfl) (aj (d9 (pv 0) (eS ai) rfl) (aj (d9 (pv 0) oz rfl) (aj (d9 (pv 0) (eS ai) rfl) (ay (d9 (pv 0) oO rfl)))))))),?_⟩;have l1:=gH "machine" m [];have l2:=gH "happening" hv (cD "machine" m []);simp only [cK] at l1;refine ⟨_,rfl,_,rfl,d,CD,dx,[],rfl,hd,T.cl,T.nM,(by show 0 < 1000; decide),?_⟩;refine ⟨_,rfl,_,rfl,d,CD,dx,_,rfl,ah,T.cl,T.nH,(by omega),?_⟩;rw [A0];have sd:∀ (o:HO),bf H0 (upd H d o):=fun o b u e=>by
  rw [aH (av e nd0)];exact s0 _ _ e
 obtain ⟨dxs0,bd0,qd0,qa0,hst0,_⟩:=id hS;refine ⟨_,rfl,st,dxs0,_,rfl,sd _ _ _ hst0,st_no _ _ _ _ (by decide +kernel),st,bx,qu,dr,se,rfl,hS.same (sd _),(by rw [ok.kq]; exact ok.nq),?_,fun G st' dxs bd qd qa N=>?_⟩
 ·have e:=congrArg ja ok.kq;rw [ar] at e;have:=ok.fw;rw [aA] at this;show qu.length < 100;have e:qu.length=qs.length:=e;omega
 have gd:G d=some (.ins CD dx (cD "happening" hv (cD "machine" m []))):=N.sm _ _ ah;have l3:=gH "state" (.ref st') (cD "happening" hv (cD "machine" m []));have l4:=fun wd=>gH "written" (.ref wd) (cD "state" (.ref st') (cD "happening" hv (cD "machine" m [])));have l5:=fun od wd=>gH "outgoing" (.ref od) (cD "written" (.ref wd) (cD "state" (.ref st') (cD "happening" hv (cD "machine" m []))));refine ⟨_,rfl,d,CD,dx,_,rfl,gd,T.cl,T.nS,(by omega),?_⟩;have l6:=fun od wd=>gH "ends" (.bl false) (cD "outgoing" (.ref od) (cD "written" (.ref wd) (cD "state" (.ref st') (cD "happening" hv (cD "machine" m [])))));have l7:=fun rd od wd=>gH "reckoned" (.ref rd) (cD "ends" (.bl false) (cD "outgoing" (.ref od) (cD "written" (.ref wd) (cD "state" (.ref st') (cD "happening" hv (cD "machine" m []))))));intro wd hwd;obtain ⟨nwd,hwd⟩:=fv hwd;refine ⟨_,rfl,d,CD,dx,_,rfl,(by rw [aH nwd.symm]; exact ah),T.cl,T.nW,(by omega),bT _,fun od hod=>?_⟩;obtain ⟨nod,hod⟩:=fv hod;obtain ⟨now_,hod⟩:=fv hod;obtain ⟨_,hod⟩:=fv hod;have l4':=l4 wd;have l5':=l5 od wd;have l6':=l6 od wd;refine ⟨_,rfl,d,CD,dx,_,rfl,(by rw [aH nod.symm]; exact ah),T.cl,T.nO,(by omega),?_⟩;refine ⟨_,rfl,d,CD,dx,_,rfl,ah,T.cl,T.nE,(by omega),bT _,fun rd hrd=>?_⟩;rw [A0] at hrd |-;obtain ⟨nrd,hrd⟩:=fv hrd;obtain ⟨nro,hrd⟩:=fv hrd;obtain ⟨_,hrd⟩:=fv hrd;obtain ⟨nrw,hrd⟩:=fv hrd;obtain ⟨_,hrd⟩:=fv hrd;have l7':=l7 rd od wd;refine ⟨_,rfl,d,CD,dx,_,rfl,(by rw [aH nrd.symm]; exact ah),T.cl,T.nR,(by omega),?_⟩;intro ud hud;obtain ⟨nud,hud⟩:=fv hud;obtain ⟨nur,hud⟩:=fv hud;obtain ⟨_,hud⟩:=fv hud;obtain ⟨nuo,hud⟩:=fv hud;obtain ⟨_,hud⟩:=fv hud;obtain ⟨nuw,hud⟩:=fv hud;obtain ⟨_,hud⟩:=fv hud;refine ⟨_,rfl,d,CD,dx,_,rfl,(by rw [aH nud.symm]; exact ah),T.cl,T.nQ,(by omega),?_⟩;rw [LR];have frH:∀ {a:aa},G a=none->H0 a=none:=fun {a} z=>by
  cases y:H0 a with
  | none=>rfl
  | some o =>
   rw [N.sm _ _ (sd _ _ _ y)] at z
   cases z
 have fr0:∀ a∈st' :: bd :: qd :: qa.map (·.2),H0 a=none/\a≠d:=fun a ha=>by
  have z:=N.fr a ha;have n:a≠d:=fun y=>by
   rw [y,ah] at z
   cases z
  rw [aH n] at z;refine ⟨?_,n⟩
  cases y:H0 a with
  | none=>rfl
  | some o =>
   rw [s0 _ _ y] at z
   cases z
 have thG:∀ a∈st' :: bd :: qd :: qa.map (·.2),∃ o,G a=some o:=fun a ha=>by
  simp only [au] at ha
  rcases ha with rfl | rfl | rfl | ha
  ·exact ⟨_,N.hst⟩
  ·exact ⟨_,N.hb⟩
  ·exact ⟨_,N.hq⟩
  ·obtain ⟨xs,e⟩:=N.hl.there ha;exact ⟨_,e⟩
 have i1:∀ {b:aa} {xs:List aa},b∈b :: xs:=ax;have i2:∀ {a b:aa} {xs:List aa},b∈xs->b∈a :: xs:=fun z=>ag _ z;refine k _ ⟨d,dx,st',dxs,bd,qd,wd,od,rd,ud,m,hv,qa⟩ rfl rfl ⟨fun b o e=>zt hwd hod hrd hud (N.sm _ _ (sd _ _ _ e)) (av e nd0),ah,zt hwd hod hrd hud N.hst (fr0 _ i1).2,zt hwd hod hrd hud N.hb (fr0 _ (i2 i1)).2,zt hwd hod hrd hud N.hq (fr0 _ (i2 (i2 i1))).2,?_,?_,⟨[],?_,.nil⟩,⟨[],?_,.nil⟩,?_,hE,hM,?_,?_,ok,wt,wa,wb⟩
 ·exact gc.keep (L:=⟨0,0,0,0,0,0,0,0,0,0,.non,.non,qa⟩) (fun a u e m=>zt hwd hod hrd hud e (fr0 a (i2 (i2 (i2 m)))).2) (fun _ h=>h) N.hl
 ·show upd _ d _ wd=some (.dK []);rw [aH nwd,aH nuw.symm,aH nwd,aH nrw.symm,aH nwd,aH now_.symm,aH nwd,ah]
 ·show upd _ d _ od=some (.lst []);rw [aH nod,aH nuo.symm,aH nod,aH nro.symm,aH nod,ah]
 ·show upd _ d _ rd=some (.lst []);rw [aH nrd,aH nur.symm,aH nrd,ah]
 ·show upd _ d _ ud=some (.dK []);rw [aH nud,ah]
 ·have nd:=N.nd;have hn:∀ {a:aa} {xs:List aa},a∉xs->xs.Nodup->(a :: xs).Nodup:=fun p q=>cF.mpr ⟨p,q⟩;obtain ⟨n1,nd⟩:=cF.mp nd;obtain ⟨n2,nd⟩:=cF.mp nd;obtain ⟨n3,nd⟩:=cF.mp nd;simp only [au,not_or] at n1 n2 n3;have wdn:∀ a∈st' :: bd :: qd :: qa.map (·.2),a≠wd:=fun a ha z=>by
   obtain ⟨o,y⟩:=thG a ha;rw [z,hwd] at y
   cases y
  have odn:∀ a∈st' :: bd :: qd :: qa.map (·.2),a≠od:=fun a ha z=>by
   obtain ⟨o,y⟩:=thG a ha;rw [z,hod] at y
   cases y
  have rdn:∀ a∈st' :: bd :: qd :: qa.map (·.2),a≠rd:=fun a ha z=>by
   obtain ⟨o,y⟩:=thG a ha;rw [z,hrd] at y
   cases y
  have udn:∀ a∈st' :: bd :: qd :: qa.map (·.2),a≠ud:=fun a ha z=>by
   obtain ⟨o,y⟩:=thG a ha;rw [z,hud] at y
   cases y
  show (d :: st' :: bd :: qd :: wd :: od :: rd :: ud :: qa.map (·.2)).Nodup;refine hn ?_ (hn ?_ (hn ?_ (hn ?_ (hn ?_ (hn ?_ (hn ?_ (hn ?_ nd)))))))
  ·simp only [au,not_or];exact ⟨fun z=>(fr0 _ i1).2 z.symm,fun z=>(fr0 _ (i2 i1)).2 z.symm,fun z=>(fr0 _ (i2 (i2 i1))).2 z.symm,nwd.symm,nod.symm,nrd.symm,nud.symm,fun z=>(fr0 d (i2 (i2 (i2 z)))).2 rfl⟩
  ·simp only [au,not_or];exact ⟨n1.1,n1.2.1,wdn _ i1,odn _ i1,rdn _ i1,udn _ i1,n1.2.2⟩
  ·simp only [au,not_or];exact ⟨n2.1,wdn _ (i2 i1),odn _ (i2 i1),rdn _ (i2 i1),udn _ (i2 i1),n2.2⟩
  ·simp only [au,not_or];exact ⟨wdn _ (i2 (i2 i1)),odn _ (i2 (i2 i1)),rdn _ (i2 (i2 i1)),udn _ (i2 (i2 i1)),n3⟩
  ·simp only [au,not_or];exact ⟨now_.symm,nrw.symm,nuw.symm,fun z=>wdn wd (i2 (i2 (i2 z))) rfl⟩
  ·simp only [au,not_or];exact ⟨nro.symm,nuo.symm,fun z=>odn od (i2 (i2 (i2 z))) rfl⟩
  ·simp only [au,not_or];exact ⟨nur.symm,fun z=>rdn rd (i2 (i2 (i2 z))) rfl⟩
  ·exact fun z=>udn ud (i2 (i2 (i2 z))) rfl
 ·intro a ha;unfold Lay.all at ha;simp only [au] at ha
  rcases ha with rfl | rfl | rfl | rfl | rfl | rfl | rfl | rfl | ha
  ·exact nd0
  ·exact (fr0 _ i1).1
  ·exact (fr0 _ (i2 i1)).1
  ·exact (fr0 _ (i2 (i2 i1))).1
  ·exact frH hwd
  ·exact frH hod
  ·exact frH hrd
  ·exact frH hud
  ·exact (fr0 a (i2 (i2 (i2 ha)))).1
inductive Kl (bs qs:List Str) (vs:List V) (H:Hp) (Q:VK) (_e:XK):Prop where
 | mk (H0:Hp) (t hl:aa) (x0 x1 x2 x3:V) (hv:List V) (hs:List (Str×Ds)) (sg:Str) (_:vs=[.ref t,.str sg]) (_:bf H0 H) (_:H0 t=some (.tup [x0,x1,x2,x3,.ref hl])) (_:H0 hl=some (.lst hv)) (_:aP (Da bs qs H0) hv hs) (_:(∀ u,kX H0 (eX bs qs H0 (jh hs sg)) u->Q u H)) (_:∀ l,H l=none->jh hs sg=.nil->Q (.ref l) (upd H l (.lst []))):Kl bs qs vs H Q _e
def L8 (bs qs:List Str):Sp:=fun vs H Q _e=>Kl bs qs vs H Q _e
theorem scBy:bK ["machine","sign","heard"] ["machine","sign"] (aL gS):={}
theorem me {α β:Type} {R:α->β->Prop}:∀ {xs:List α} {ys:List β} {i:Nat} {x:α},aP R xs ys->xs[i]?=some x->∃ y,ys[i]?=some y/\R x y
 | _,_,i,x,.nil,h=>by simp at h
 | _,_,0,x,.cons a b,h=>by
  simp at h;subst h;exact ⟨_,rfl,a⟩
 | _,_,i + 1,x,.cons a b,h=>by
  obtain ⟨y,h1,h2⟩:=me (i:=i) (x:=x) b (by simpa using h);exact ⟨y,by simpa using h1,h2⟩
theorem ok_by (D:Df K mg "deeds_by_sign" gS ["machine","sign"] f fd):bA P w K mg base CX0 1 f fd ["machine","sign"] (L8 bs qs):=by
 refine D.F.ok scBy (fun vs H Q E h=>?_) (fun cdv A outer s H vs Q E hr h=>?_)
 ·obtain ⟨H0,t,hl,x0,x1,x2,x3,hv,hs,sg,rfl,_⟩:=h;rfl
 obtain ⟨H0,t,hl,x0,x1,x2,x3,hv,hs,sg,rfl,sm,ht,hh,pr,k1,k2⟩:=h;have ht:=sm _ _ ht;have hh:=sm _ _ hh;refine ⟨_,aj (i5 cR rfl (i0 (bU cz (pv 0) aw (fun _ _=>rfl))) (dQ (i:=2) scBy.nd rfl (Or.inl rfl)) (ay (cS (bP e7 (bU cz (pv 2) aw (fun _ _=>rfl)) (pv 1) (cb _)) (ay (bM (bU cz (pv 2) aw (fun _ _=>rfl)))) bY)))
  (ay (bM (eS ai))),?_⟩
 refine ⟨_,rfl,t,_,_,_,rfl,rfl,SqT.of ht,rfl,hl,rfl,⟨_,SqL.of hh⟩,jG (K:=K) (a:=hl) (xs:=hv) (fun i σ G=>G=H/\(∃ u,σ=[some (.ref t),some (.str sg),u])/\jh hs sg=jh (hs.drop i) sg) ⟨rfl,⟨_,rfl⟩,by rw [wN]⟩ ?_ ?_ ?_⟩
 ·rintro i σ G _ ⟨rfl,_⟩;exact SqL.of hh
 ·rintro i x σ G hi ⟨rfl,⟨u,rfl⟩,e⟩;obtain ⟨p,hp,t',u',rfl,ht',hl'⟩:=me pr hi;have ht':=sm _ _ ht';have lt:i < hs.length:=(aE.mp hp).1;have hx:hs[i]=p:=(aE.mp hp).2;rw [yb lt,hx] at e;obtain ⟨pn,pd⟩:=p;refine ⟨_,rfl,t',_,_,_,rfl,rfl,SqT.of ht',rfl,_,rfl,rfl,_,rfl,?_⟩
  by_cases c:pn=sg
  ·subst c;refine l8 (C5 _) (iL ?_);refine ⟨_,rfl,t',_,_,_,rfl,rfl,SqT.of ht',rfl,k1 u' ?_⟩;rw [e];unfold jh;rw [bO];exact hl'
  ·refine l8 (tP c) (fZ ?_);refine ⟨rfl,⟨_,rfl⟩,?_⟩;rw [e];unfold jh;rw [cy,beq_eq_false_iff_ne.mpr (fun z=>c z.symm)]
 ·rintro σ G ⟨rfl,⟨u,rfl⟩,e⟩;have ln:=aZ pr;rw [ln,HA] at e;exact ⟨bT _,fun l hl'=>k2 l hl' e⟩
end
structure vg (bs qs:List Str) (ds:List Int) (hs:List (Str×Ds)) (H:Hp) (m:V):Prop where
 ex:∃ (t bl ql dl hl:aa) (nm:V) (vb hv:List V),m=.ref t/\H t=some (.tup [nm,.ref bl,.ref ql,.ref dl,.ref hl])/\H bl=some (.lst vb)/\aP (fun v (x:Str)=>∃ a n,v=.ref a/\H a=some (.tup [.str x,n])) vb bs/\H ql=some (.lst (qs.map V.str))/\H dl=some (.lst (ds.map V.int))/\H hl=some (.lst hv)/\aP (Da bs qs H) hv hs
theorem vg.same {bs qs:List Str} {ds:List Int} {hs:List (Str×Ds)} {H H':Hp} (s:bf H H') {m:V} (h:vg bs qs ds hs H m):vg bs qs ds hs H' m:=by
 obtain ⟨t,bl,ql,dl,hl,nm,vb,hv,e,h1,h2,h3,h4,h5,h6,h7⟩:=h;exact ⟨t,bl,ql,dl,hl,nm,vb,hv,e,s _ _ h1,s _ _ h2,Paired.mono (fun v x z=>by
  obtain ⟨a,n,e,y⟩:=z;exact ⟨a,n,e,s _ _ y⟩) h3,s _ _ h4,s _ _ h5,s _ _ h6,Paired.mono (fun _ _ z=>z.same s) h7⟩
def wrB (bs:List Str) (w:Wk):List (Str×Int):=(bs.filter fun x=>decide (x∈w.wr)).map fun x=>(x,uZ w.bx x)
def wrQ (qs:List Str) (w:Wk):List (Str×List Int):=(qs.filter fun x=>decide (x∈w.wr)).map fun x=>(x,jo w.qu x)
def yc (G:Hp) (v:V) (p:Str×Int):Prop:=∃ t,v=.ref t/\G t=some (.tup [.str p.1,.int p.2])
def zu (G:Hp) (v:V) (p:Str×aa):Prop:=∃ t,v=.ref t/\G t=some (.tup [.str p.1,.ref p.2])
theorem yc.keep {G G':Hp} (k:∀ a xs,G a=some (.tup xs)->G' a=some (.tup xs)) {v:V} {p:Str×Int} (h:yc G v p):yc G' v p:=by
 obtain ⟨t,e,h1⟩:=h;exact ⟨t,e,k _ _ h1⟩
theorem zu.keep {G G':Hp} (k:∀ a xs,G a=some (.tup xs)->G' a=some (.tup xs)) {v:V} {p:Str×aa} (h:zu G v p):zu G' v p:=by
 obtain ⟨t,e,h1⟩:=h;exact ⟨t,e,k _ _ h1⟩
structure WrIn (bs qs:List Str) (w:Wk) (H G:Hp) (wl:aa) (ws1 ws2:List V) (qa:List (Str×aa)):Prop where
 hl:G wl=some (.lst (ws1++ws2))
 b:aP (yc G) ws1 (wrB bs w)
 q:aP (zu G) ws2 qa
 l:gc G qa (wrQ qs w)
 nd:(wl :: qa.map (·.2)).Nodup
 fr:∀ a∈wl :: qa.map (·.2),H a=none
theorem tE {p:Str->Bool} {xs:List Str} {i:Nat} {x:Str} (h:xs[i]?=some x):(xs.take (i + 1)).filter p=(xs.take i).filter p++if p x=true then [x] else []:=by
 rw [e9,h,List.filter_append];show _++[x].filter p=_
 by_cases c:p x=true
 ·rw [if_pos c,List.filter_cons_of_pos c];rfl
 ·rw [if_neg c,List.filter_cons_of_neg c];rfl
theorem qY {H G:Hp} {a:aa} (s:bf H G) (n:H a=none) (o:HO):bf H (upd G a o):=fun b u e=>by
 rw [aH (av e n)];exact s _ _ e
theorem none_of {H G:Hp} (s:bf H G) {a:aa} (n:G a=none):H a=none:=by
 cases z:H a with
 | none=>rfl
 | some o =>
  rw [s _ _ z] at n
  cases n
section
variable {P:aJ} {w:bJ} {K:af} {mg:Str->Option ae} {base:cu} {f CD CS CM:aa} {fd:bR} {bs qs:List Str}
inductive Km (CD CS:aa) (bs qs:List Str) (vs:List V) (H:Hp) (Q:VK) (_e:XK):Prop where
 | mk (H0:Hp) (L:Lay) (h:Ev) (ds:List Int) (w:Wk) (hs:List (Str×Ds)) (_:vs=[.ref L.d]) (_:Dg CD CS bs qs H0 H L h ds w) (_:vg bs qs ds hs H0 L.m) (_:∀ (G:Hp) (wl:aa) (ws1 ws2:List V) (qa:List (Str×aa)),bf H G->WrIn bs qs w H G wl ws1 ws2 qa->Q (.ref wl) G):Km CD CS bs qs vs H Q _e
def spWr (CD CS:aa) (bs qs:List Str):Sp:=fun vs H Q _e=>Km CD CS bs qs vs H Q _e
theorem Ja:bK ["doing","writes","box","name"] ["doing"] (aL kS):={}
theorem Dc (D:Df K mg "writes_of" kS ["doing"] f fd) (T:DT K mg CD) (TM:MdT K mg CM CS) (B:Bl mg):bA P w K mg base CX0 1 f fd ["doing"] (spWr CD CS bs qs):=by
 refine D.F.ok Ja (fun vs H Q E h=>?_) (fun cdv A outer s H vs Q E hr h=>?_)
 ·obtain ⟨H0,L,h,ds,w,hs,rfl,_⟩:=h;rfl
 obtain ⟨H0,L,h,ds,w,hs,rfl,g,⟨t,bl,ql,dl,hl,nm,vb,hv,em,ht,hbl,pb,hql,hdl,hhl,_⟩,k⟩:=h;have hu:=kQ hr;refine ⟨_,aj (bC (i:=1) Ja.nd rfl (Or.inl rfl) (eS ai))
  (aj (i5 cR rfl (i0 (bU cz (cO (pv 0) rfl) aw (fun _ _=>rfl))) (dQ (i:=2) Ja.nd rfl (Or.inl rfl)) (ay (cS (qj (EN hu (bU cz (pv 2) aw (fun _ _=>rfl)) (cO (pv 0) rfl)))
   (ay (eI (lQ bZ cP cQ gY (pv 1) (ao (dR (ao (bU cz (pv 2) aw (fun _ _=>rfl)) (ao (pO hu (cO (cO (pv 0) rfl) rfl) (bU cz (pv 2) aw (fun _ _=>rfl)) (fun _ _=>rfl)) ai))) ai)))) bY)))
  (aj (i5 cR rfl (i0 (bU cz (cO (pv 0) rfl) aw (fun _ _=>rfl))) (dQ (i:=3) Ja.nd rfl (Or.inl rfl)) (ay (cS (qj (EN hu (pv 3) (cO (pv 0) rfl)))
   (ay (eI (lQ bZ cP cQ gY (pv 1) (ao (dR (ao (pv 3) (ao (gL mP (by rfl) B.list boot_list (ao (pO hu (cO (cO (pv 0) rfl) rfl) (pv 3) (fun _ _=>rfl)) ai)) ai))) ai)))) bY)))
  (ay (bM (pv 1))))),?_⟩
 have big:=dY;have fw:=g.ok.fw;rw [aA] at fw;refine ⟨bT _,fun wl hwl=>?_⟩;have s0:=aF hwl (.lst []);have inW:∀ {G:Hp} (g:Dg CD CS bs qs H0 G L h ds w) (x:Str),nZ G L.wd (.str x) (if x∈w.wr then some (.bl true) else none):=fun {G} g x=>by
  have z:=nZ.k (k:=Sum.inr x) g.hw;rw [Bt] at z;exact z
 refine ⟨_,rfl,L.d,CD,L.dx,_,_,rfl,s0 _ _ g.hd,T.cl,T.nM,LQ _ _ _ _ _ _ _ _,t,_,_,_,em,rfl,SqT.of (s0 _ _ (g.sm _ _ ht)),rfl,bl,rfl,⟨_,SqL.of (s0 _ _ (g.sm _ _ hbl))⟩,?_⟩;refine jG (K:=K) (a:=bl) (xs:=vb) (fun i σ G=>∃ (u:Option V) (ws:List V),σ=[some (.ref L.d),some (.ref wl),u,none]/\bf H G/\G wl=some (.lst ws)/\aP (yc G) ws (((bs.take i).filter fun x=>decide (x∈w.wr)).map fun x=>(x,uZ w.bx x))) ⟨none,[],rfl,s0,ah,by rw [jt]; exact .nil⟩ ?_ ?_ ?_
 ·rintro i σ G _ ⟨_,_,rfl,sm,_⟩;exact SqL.of (sm _ _ (g.sm _ _ hbl))
 ·rintro i x σ G hi ⟨u,ws,rfl,sm,gw,pw⟩;have g1:=g.same sm;obtain ⟨y,hy,a,n,rfl,ha⟩:=me pb hi;have ha:=g1.sm _ _ ha;have my:y∈bs:=bV hy;have ft:=tE (p:=fun x=>decide (x∈w.wr)) hy;refine ⟨_,rfl,a,_,_,_,rfl,rfl,SqT.of ha,rfl,_,rfl,L.d,CD,L.dx,_,_,rfl,g1.hd,T.cl,T.nW,FD _ _ _ _ _ _ _ _,L.wd,_,rfl,inW g1 y,_,rfl,?_⟩
  by_cases c:y∈w.wr
  ·rw [if_pos c];rw [if_pos (decide_eq_true c)] at ft;refine iL ?_;refine ⟨_,rfl,.inl ⟨rfl,_,SqL.of gw⟩,_,rfl,a,_,_,_,rfl,rfl,SqT.of ha,rfl,_,rfl,L.d,CD,L.dx,_,_,rfl,g1.hd,T.cl,T.nS,vZ _ _ _ _ _ _ _ _,L.st,CS,L.dxs,_,_,rfl,g1.hst,TM.clS,TM.nB,IQ _ _ _ _,_,rfl,a,_,_,_,rfl,rfl,SqT.of ha,rfl,L.bd,_,rfl,(by have z:=nZ.k (k:=Sum.inr y) g1.hb; rw [FG (by rw [g1.ok.kb]; exact my)] at z; exact z),lt2,fun tt htt=>?_⟩;have st_:=aF htt (.tup [.str y,.int (uZ w.bx y)]);have lw:=aZ pw;have lf:(((bs.take i).filter fun x=>decide (x∈w.wr)).map fun x=>(x,uZ w.bx x)).length<=bs.length:=by
    rw [ar];refine cZ (pP _ _) ?_;rw [df];omega
   refine ⟨wl,ws,_,rfl,rfl,st_ _ _ gw,(by omega),_,_,rfl,qY (sm.trans st_) hwl _,ah,?_⟩;rw [ft,cg];have kp:∀ b xs,upd G tt (.tup [.str y,.int (uZ w.bx y)]) b=some (.tup xs)->upd (upd G tt (.tup [.str y,.int (uZ w.bx y)])) wl (.lst (ws++[.ref tt])) b=some (.tup xs):=fun b xs z=>aR z (nF z (st_ _ _ gw) (by intro q; cases q));exact eD (Paired.mono (fun _ _ z=>(z.keep fun b xs e=>st_ _ _ e).keep kp) pw) ⟨tt,rfl,kp _ _ ah⟩
  ·rw [if_neg c];rw [if_neg (by rw [decide_eq_false c]; decide),cE] at ft;refine fZ ⟨_,ws,rfl,sm,gw,?_⟩;rw [ft];exact pw
 rintro σ G ⟨u,ws1,rfl,sm,gw,pw⟩;have g1:=g.same sm;have ev1:vb.length=bs.length:=aZ pb;rw [ev1,dZ] at pw;refine ⟨_,rfl,L.d,CD,L.dx,_,_,rfl,g1.hd,T.cl,T.nM,LQ _ _ _ _ _ _ _ _,t,_,_,_,em,rfl,SqT.of (g1.sm _ _ ht),rfl,ql,rfl,⟨_,SqL.of (g1.sm _ _ hql)⟩,?_⟩;refine jG (K:=K) (a:=ql) (xs:=qs.map V.str) (fun i σ G=>∃ (u v:Option V) (ws2:List V) (qa:List (Str×aa)),σ=[some (.ref L.d),some (.ref wl),u,v]/\bf H G/\G wl=some (.lst (ws1++ws2))/\aP (yc G) ws1 (wrB bs w)/\aP (zu G) ws2 qa /\
  gc G qa (((qs.take i).filter fun x=>decide (x∈w.wr)).map fun x=>(x,jo w.qu x))/\(wl :: qa.map (·.2)).Nodup/\∀ a∈wl :: qa.map (·.2),H a=none) ⟨_,_,[],[],rfl,sm,by rw [cE]; exact gw,pw,.nil,by rw [jt]; exact .nil,by simp,fun a ha=>by rw [aD.mp ha]; exact hwl⟩ ?_ ?_ ?_
 ·rintro i σ G _ ⟨_,_,_,_,rfl,sm,_⟩;exact SqL.of (sm _ _ (g.sm _ _ hql))
 ·rintro i x σ G hi ⟨u,v,ws2,qa,rfl,sm,gw,pw,pq,pl,nd,fr⟩;have g1:=g.same sm;obtain ⟨y,hy,rfl⟩:∃ y,qs[i]?=some y/\x=.str y:=by
   rw [cI] at hi
   cases z:qs[i]? with
   | none =>
    rw [z] at hi
    cases hi
   | some y =>
    rw [z] at hi
    cases hi;exact ⟨y,rfl,rfl⟩
  have my:y∈qs:=bV hy;have ft:=tE (p:=fun x=>decide (x∈w.wr)) hy;refine ⟨_,rfl,_,rfl,L.d,CD,L.dx,_,_,rfl,g1.hd,T.cl,T.nW,FD _ _ _ _ _ _ _ _,L.wd,_,rfl,inW g1 y,_,rfl,?_⟩
  by_cases c:y∈w.wr
  ·rw [if_pos c];rw [if_pos (decide_eq_true c)] at ft;refine iL ?_;obtain ⟨l,h1,h2,h3⟩:=g1.getL my;refine ⟨_,rfl,.inl ⟨rfl,_,SqL.of gw⟩,_,rfl,_,rfl,L.d,CD,L.dx,_,_,rfl,g1.hd,T.cl,T.nS,vZ _ _ _ _ _ _ _ _,L.st,CS,L.dxs,_,_,rfl,g1.hst,TM.clS,TM.nQ,IR _ _ _ _,_,rfl,L.qd,_,rfl,h3,l,_,rfl,.inl (SqL.of h2),fun nl hnl=>?_⟩;have sn:=aF hnl (.lst ((jo w.qu y).map V.int));refine ⟨lt2,fun tt htt=>?_⟩;have st_:=aF htt (.tup [.str y,.ref nl]);have lw:=aZ pq;have lb:=aZ pw;have lq:=aZ pl;have lf:(((qs.take i).filter fun x=>decide (x∈w.wr)).map fun x=>(x,jo w.qu x)).length<=qs.length:=by
    rw [ar];refine cZ (pP _ _) ?_;rw [df];omega
   have lf2:(wrB bs w).length<=bs.length:=by
    unfold wrB;rw [ar];exact pP _ _
   have gw':=st_ _ _ (sn _ _ gw);have nlw:nl≠wl:=(av gw hnl).symm;have kp:∀ b xs,upd (upd G nl (.lst ((jo w.qu y).map V.int))) tt (.tup [.str y,.ref nl]) b=some (.tup xs)->upd (upd (upd G nl (.lst ((jo w.qu y).map V.int))) tt (.tup [.str y,.ref nl])) wl (.lst (ws1++ws2++[.ref tt])) b=some (.tup xs):=fun b xs z=>aR z (nF z gw' (by intro q; cases q));refine ⟨wl,_,_,rfl,rfl,gw',(by rw [aA]; omega),_,_,ws2++[.ref tt],qa++[(y,nl)],rfl,qY ((sm.trans sn).trans st_) hwl _,(by rw [<- jr]; exact ah),?_,?_,?_,?_,?_⟩
   ·exact Paired.mono (fun _ _ z=>(z.keep fun b xs e=>st_ _ _ (sn _ _ e)).keep kp) pw
   ·exact eD (Paired.mono (fun _ _ z=>(z.keep fun b xs e=>st_ _ _ (sn _ _ e)).keep kp) pq) ⟨tt,rfl,kp _ _ ah⟩
   ·rw [ft,cg];refine eD (gc.keep (L:=⟨0,0,0,0,0,0,0,0,0,0,.non,.non,qa⟩) (fun a u e m=>aR (st_ _ _ (sn _ _ e)) fun z=>?_) (fun _ h=>h) pl) ⟨rfl,aR (st_ _ _ ah) nlw⟩;rw [z] at m;exact (cF.mp nd).1 m
   ·rw [cg,<- HB];refine gF.mpr ⟨nd,by simp,fun a ha b hb=>?_⟩;rw [aD.mp hb];intro z
    rcases au.mp ha with q | q
    ·exact nlw ((show a=nl from z).symm.trans q)
    ·obtain ⟨xs,q⟩:=pl.there q;rw [show a=nl from z,hnl] at q
     cases q
   ·intro a ha;rw [cg,<- HB] at ha
    rcases cq.mp ha with z | z
    ·exact fr a z
    ·rw [aD.mp z];exact none_of sm hnl
  ·rw [if_neg c];rw [if_neg (by rw [decide_eq_false c]; decide),cE] at ft;refine fZ ⟨_,_,ws2,qa,rfl,sm,gw,pw,pq,?_,nd,fr⟩;rw [ft];exact pl
 rintro σ G ⟨u,v,ws2,qa,rfl,sm,gw,pw,pq,pl,nd,fr⟩;rw [ar,dZ] at pl;exact ⟨_,rfl,k G wl ws1 ws2 qa sm ⟨gw,pw,pq,pl,nd,fr⟩⟩
end
structure FV (CD CS:aa) (bs qs:List Str) (H G:Hp) (L:Lay) (h:Ev) (ds:List Int) (w:Wk) (t rc wl:aa) (ws1 ws2:List V) (qa:List (Str×aa)):Prop where
 dg:∃ H0,bf H H0/\Dg CD CS bs qs H0 G L h ds w
 ht:G t=some (.tup [.ref L.st,.ref rc,.bl w.en])
 hrc:∃ k,G rc=some (.tup [.ref k,.int h.to,.str h.sg,.int h.a,.int h.b,.ref wl,.ref L.od])/\H k=some (.tup [.int h.t,.int h.r,.int h.fr,.int h.c])
 wr:WrIn bs qs w H G wl ws1 ws2 qa
 nd:(L.all++wl :: qa.map (·.2)).Nodup
theorem FV.sm {CD CS:aa} {bs qs:List Str} {H G:Hp} {L:Lay} {h:Ev} {ds:List Int} {w:Wk} {t rc wl:aa} {ws1 ws2:List V} {qa:List (Str×aa)} (n:FV CD CS bs qs H G L h ds w t rc wl ws1 ws2 qa):bf H G:=by
 obtain ⟨H0,s,g⟩:=n.dg;exact s.trans g.sm
def w0 (bx:List (Str×Int)) (qu:List (Str×List Int)) (dr:Nat) (se:Int):Wk:=⟨bx,qu,dr,se,[],[],false,[],[]⟩
section
variable {P:aJ} {w:bJ} {K:af} {mg:Str->Option ae} {base:cu} {f fI fS fB fW fO CD CS CM:aa} {fd fdI fdS fdB fdW fdO:bR} {bs qs:List Str} {cf:Flt->aa}
inductive BE (cf:Flt->aa) (CM CD CS:aa) (bs qs:List Str) (n:Nat) (vs:List V) (H:Hp) (Q:VK) (E:XK):Prop where
 | mk (m dxm ml st:aa) (fs:List (Str×V)) (ms:List V) (hv mv:V) (h:Ev) (ds:List Int) (hs:List (Str×Ds)) (bx:List (Str×Int)) (qu:List (Str×List Int)) (dr:Nat) (se:Int) (_:vs=[.ref m,.ref st,hv]) (_:H m=some (.ins CM dxm fs)) (_:fs.lookup ("machines":Str)=some (.ref ml)) (_:H ml=some (.lst ms)) (_:gQ H hv h) (_:atI ms h.to=some mv) (_:vg bs qs ds hs H mv) (_:jq CS H st bx qu dr se) (_:o8 bs qs (w0 bx qu dr se)) (_:Wo h.t) (_:Wo h.a) (_:Wo h.b) (_:(jh hs h.sg).deep < n) (_:(jh hs h.sg).size < 100000) (_:match doS h ds (jh hs h.sg) (w0 bx qu dr se) with
 | .ok w'=>∀ (G:Hp) (L:Lay) (t rc wl:aa) (ws1 ws2:List V) (qa:List (Str×aa)),FV CD CS bs qs H G L h ds w' t rc wl ws1 ws2 qa->Q (.ref t) G
 | .error e=>∀ G,bf H G->E (.ref (cf e)) none G):BE cf CM CD CS bs qs n vs H Q E
def FW (cf:Flt->aa) (CM CD CS:aa) (bs qs:List Str) (n:Nat):Sp:=fun vs H Q E=>BE cf CM CD CS bs qs n vs H Q E
theorem by_go {CD CS:aa} {bs qs:List Str} {H G:Hp} {L:Lay} {h:Ev} {ds:List Int} {w:Wk} {tm hl:aa} {x0 x1 x2 x3:V} {hvs:List V} {hs:List (Str×Ds)} {sg:Str} {Q1:VK} {E:XK} (g:Dg CD CS bs qs H G L h ds w) (htm:H tm=some (.tup [x0,x1,x2,x3,.ref hl])) (hhl:H hl=some (.lst hvs)) (ph:aP (Da bs qs H) hvs hs)
  (k:∀ (H0 G1:Hp) (u:V),bf H H0->bf G G1->Dg CD CS bs qs H0 G1 L h ds w->kX H0 (eX bs qs H0 (jh hs sg)) u->Q1 u G1):L8 bs qs [.ref tm,.str sg] G Q1 E:=by
 refine ⟨H,tm,hl,_,_,_,_,hvs,hs,sg,rfl,g.sm,htm,hhl,ph,fun u hu=>k H G u (bf.refl _) (bf.refl _) g hu,fun l hl' e=>?_⟩;have sl:=aF hl' (.lst []);have nl:=none_of g.sm hl';have s0:=aF nl (.lst []);have s1:bf (upd H l (.lst [])) (upd G l (.lst [])):=fun b o z=>by
  by_cases c:b=l
  ·rw [c] at z |-;rw [ah] at z |-;exact z
  ·rw [aH c] at z |-;exact g.sm _ _ z
 refine k _ _ _ s0 sl (g.base sl s0 s1 fun a ha=>?_) ⟨l,[],rfl,ah,by show 0 < 1000; decide,?_⟩
 ·obtain ⟨o,z⟩:=g.there a ha;rw [aH (av z hl')];exact g.fr a ha
 ·rw [e];simp only [eX]
inductive FX (cf:Flt->aa) (CM CD CS:aa) (bs qs:List Str) (n:Nat) (vs:List V) (H:Hp) (Q:VK) (E:XK):Prop where
 | mk (m dxm ml st:aa) (fs:List (Str×V)) (ms:List V) (hv mv:V) (h:Ev) (ds:List Int) (hs:List (Str×Ds)) (bx:List (Str×Int)) (qu:List (Str×List Int)) (dr:Nat) (se:Int) (_:vs=[.ref m,.ref st,hv]) (_:H m=some (.ins CM dxm fs)) (_:fs.lookup ("machines":Str)=some (.ref ml)) (_:H ml=some (.lst ms)) (_:gQ H hv h) (_:atI ms h.to=some mv) (_:vg bs qs ds hs H mv) (_:jq CS H st bx qu dr se) (_:o8 bs qs (w0 bx qu dr se)) (_:Wo h.t) (_:Wo h.a) (_:Wo h.b) (_:(jh hs h.sg).deep < n) (_:(jh hs h.sg).size < 100000) (_:match doS h ds (jh hs h.sg) (w0 bx qu dr se) with
 | .ok w'=>∀ (H0 G:Hp) (L:Lay),bf H H0->Dg CD CS bs qs H0 G L h ds w'->L.m=mv->Q (.ref L.d) G
 | .error e=>∀ G,bf H G->E (.ref (cf e)) none G):FX cf CM CD CS bs qs n vs H Q E
def Kn (cf:Flt->aa) (CM CD CS:aa) (bs qs:List Str) (n:Nat):Sp:=fun vs H Q E=>FX cf CM CD CS bs qs n vs H Q E
theorem L9:bK ["model","state","happening","machine","doing"] ["model","state","happening"] (aL m7):={}
theorem Ma {n:Nat} (D:Df K mg "doing_of" m7 ["model","state","happening"] f fd) (MD:Mk K CD fI) (bI:Binds K fdI ["self","machine","state","happening"] []) (GI:bA P w K mg base CX0 4 fI fdI ["self","machine","state","happening"] (L7 CD CS bs qs))
  (DS:Df K mg "do_deeds" ic ["doing","deeds"] fS fdS) (GS:bA P w K mg base (CXo P w) (20 + 3 * n) fS fdS ["doing","deeds"] (vd cf CD CS bs qs n)) (DB:Df K mg "deeds_by_sign" gS ["machine","sign"] fB fdB) (T:DT K mg CD) (TM:MdT K mg CM CS) :
  bA P w K mg base (CXo P w) (20 + 3 * n + 1) f fd ["model","state","happening"] (Kn cf CM CD CS bs qs n):=by
 have GB:bA P w K mg base CX0 1 fB fdB ["machine","sign"] (L8 bs qs):=ok_by DB;refine D.F.okX L9 (fun vs H Q E h=>?_) (fun cdv A outer s H vs Q E hr h=>?_)
 ·obtain ⟨m,dxm,ml,st,fs,ms,hv,mv,h,ds,hs,bx,qu,dr,se,rfl,_⟩:=h;rfl
 obtain ⟨m,dxm,ml,st,fs,ms,hv,mv,h,ds,hs,bx,qu,dr,se,rfl,hm,hfs,hml,hE,hmv,hM,hS,ok,wt,wa,wb,dn,sz,p⟩:=h;have r1:c5 1 _:=hr.mono (by omega);have r5:c5 5 _:=hr.mono (by omega);refine ⟨_,aj (bC (i:=3) L9.nd rfl (Or.inl rfl) (bU dI (cO (pv 0) rfl) (bU cz (pv 2) aw (fun _ _=>rfl)) (fun _ _=>rfl)))
  (aj (bC (i:=4) L9.nd rfl (Or.inl rfl) (jA MD GI r5 (by rfl) T.mD bI .nil bj (ao (pv 3) (ao (pv 1) (ao (pv 2) ai)))))
  (aj (eI (aK GS hr (by rfl) DS.m DS.F.kp DS.b .nil (dJ.passes fun _ _ _ z=>z) (ao (pv 4) (ao (aK GB r1 (by rfl) DB.m DB.F.kp DB.b .nil bj (ao (pv 3) (ao (bU cz (pv 2) aw (fun _ _=>rfl)) ai))) ai))))
  (ay (bM (pv 4))))),?_⟩
 obtain ⟨th,kh,rfl,hth,hkh⟩:=id hE;obtain ⟨tm,bl,ql,dl,hl,nm,vb,hvs,rfl,htm,hbl,pb,hql,hdl,hhl,ph⟩:=hM.ex;refine ⟨_,rfl,m,CM,dxm,_,_,rfl,hm,TM.clM,TM.nM,hfs,_,rfl,th,_,_,_,rfl,rfl,SqT.of hth,rfl,ml,_,_,_,rfl,rfl,SqL.of hml,hmv,?_⟩;refine ⟨_,rfl,_,rfl,_,rfl,?_⟩;intro d dx nd_ ndx nne;have sA:bf H (upd (upd H dx (.own d)) d (.ins CD dx [])):=fun b o e=>by
  rw [aH (av e nd_),aH (av e ndx)];exact e
 refine ⟨H,d,dx,st,.ref tm,.ref th,h,ds,bx,qu,dr,se,rfl,ah,nd_,sA,hS,hE,⟨tm,_,_,_,_,dl,rfl,htm,hdl⟩,ok,wt,wa,wb,fun G L eL em g=>⟨rfl,?_⟩⟩;have gth:=g.sm _ _ hth;refine ⟨_,rfl,_,rfl,_,rfl,th,_,_,_,rfl,rfl,SqT.of gth,rfl,?_⟩;subst eL;refine by_go (E:=E0) g htm hhl ph fun H0 G1 u s0 s1 g1 hu=>?_;refine ⟨H0,L,h,ds,w0 bx qu dr se,u,jh hs h.sg,rfl,g1,hu,dn,(by show 0 + _ < _; omega),?_⟩;have mid:∀ {dg:Wk->Hp->Prop} {r:Except Flt Wk} {Q1:VK} {k:Nat},r=doS h ds (jh hs h.sg) (w0 bx qu dr se)->(∀ w' G2,r=.ok w'->dg w' G2->Q1 .non G2)->sh cf dg H0 k r Q1 E:=fun {dg r Q1 k} e q=>by
  cases r with
  | ok w'=>exact fun G2 g2 _=>q w' G2 rfl g2
  | error er =>
   rw [<- e] at p;exact fun G2 s2=>p G2 (s0.trans s2)
 refine mid rfl fun w' G2 ew g2=>?_;rw [ew] at p;exact ⟨_,rfl,p H0 G2 L s0 g2 em⟩
theorem Mb:bK ["model","state","happening","doing","record"] ["model","state","happening"] (aL xW):={}
theorem yd {n:Nat} (D:Df K mg "done" xW ["model","state","happening"] f fd) (DO:Df K mg "doing_of" m7 ["model","state","happening"] fO fdO) (MD:Mk K CD fI) (bI:Binds K fdI ["self","machine","state","happening"] []) (GI:bA P w K mg base CX0 4 fI fdI ["self","machine","state","happening"] (L7 CD CS bs qs))
  (DS:Df K mg "do_deeds" ic ["doing","deeds"] fS fdS) (GS:bA P w K mg base (CXo P w) (20 + 3 * n) fS fdS ["doing","deeds"] (vd cf CD CS bs qs n)) (DB:Df K mg "deeds_by_sign" gS ["machine","sign"] fB fdB) (DW:Df K mg "writes_of" kS ["doing"] fW fdW) (T:DT K mg CD) (TM:MdT K mg CM CS) (B:Bl mg) :
  bA P w K mg base (CXo P w) (20 + 3 * n + 2) f fd ["model","state","happening"] (FW cf CM CD CS bs qs n):=by
 have GO:bA P w K mg base (CXo P w) (20 + 3 * n + 1) fO fdO ["model","state","happening"] (Kn cf CM CD CS bs qs n):=Ma DO MD bI GI DS GS DB T TM;have GW:bA P w K mg base CX0 1 fW fdW ["doing"] (spWr CD CS bs qs):=Dc DW T TM B;refine D.F.okX Mb (fun vs H Q E h=>?_) (fun cdv A outer s H vs Q E hr h=>?_)
 ·obtain ⟨m,dxm,ml,st,fs,ms,hv,mv,h,ds,hs,bx,qu,dr,se,rfl,_⟩:=h;rfl
 obtain ⟨m,dxm,ml,st,fs,ms,hv,mv,h,ds,hs,bx,qu,dr,se,rfl,hm,hfs,hml,hE,hmv,hM,hS,ok,wt,wa,wb,dn,sz,p⟩:=h;have r1:c5 1 _:=hr.mono (by omega);refine ⟨_,aj (bC (i:=3) Mb.nd rfl (Or.inl rfl) (aK GO hr (by rfl) DO.m DO.F.kp DO.b .nil (dJ.passes fun _ _ _ z=>z) (ao (pv 0) (ao (pv 1) (ao (pv 2) ai)))))
  (aj (bC (i:=4) Mb.nd rfl (Or.inl rfl) (cT HW (pv 2) (dR (ao (aK GW r1 (by rfl) DW.m DW.F.kp DW.b .nil bj (ao (pv 3) ai)) (ao (cO (pv 3) rfl) ai)))))
  (ay (bM (dR (ao (cO (pv 3) rfl) (ao (pv 4) (ao (cO (pv 3) rfl) ai))))))),?_⟩
 obtain ⟨th,kh,rfl,hth,hkh⟩:=id hE;refine ⟨_,rfl,_,rfl,_,rfl,m,dxm,ml,st,fs,ms,_,mv,h,ds,hs,bx,qu,dr,se,rfl,hm,hfs,hml,hE,hmv,hM,hS,ok,wt,wa,wb,dn,sz,?_⟩
 cases ew:doS h ds (jh hs h.sg) (w0 bx qu dr se) with
 | error e =>
  rw [ew] at p;exact p
 | ok w' =>
 rw [ew] at p;intro H0 G2 L s0 g2 em;have hth2:=g2.sm _ _ (s0 _ _ hth);have gM:vg bs qs ds hs H0 L.m:=by
  rw [em];exact hM.same s0
 refine ⟨_,rfl,_,rfl,H0,L,h,ds,w',hs,rfl,g2,gM,fun G3 wl ws1 ws2 qa s3 wr=>?_⟩;have g3:=g2.same s3;refine ⟨_,rfl,L.d,CD,L.dx,_,_,rfl,g3.hd,T.cl,T.nO,dF_o _ _ _ _ _ _ _ _,lt2,fun tt htt=>?_⟩;have s4:=aF htt (.tup [.ref wl,.ref L.od]);refine ⟨th,tt,_,_,rfl,rfl,SqT.of (s4 _ _ (s3 _ _ hth2)),SqT.of ah,(by intro z; cases z),(by show 7<=aB; decide),(fun z=>by cases z),fun _ rc hrc=>?_⟩;have s5:=aF hrc (.tup [.ref kh,.int h.to,.str h.sg,.int h.a,.int h.b,.ref wl,.ref L.od]);have g5:=(g3.same s4).same s5;refine ⟨_,rfl,L.d,CD,L.dx,_,_,rfl,g5.hd,T.cl,T.nS,vZ _ _ _ _ _ _ _ _,_,rfl,_,rfl,L.d,CD,L.dx,_,_,rfl,g5.hd,T.cl,T.nE,dF_e _ _ _ _ _ _ _ _,(by show 3<=aB; decide),fun t ht=>?_⟩;have s6:=aF ht (.tup [.ref L.st,.ref rc,.bl w'.en]);have s46:=(s4.trans s5).trans s6;refine p _ L t rc wl ws1 ws2 qa ⟨⟨H0,s0,g5.same s6⟩,ah,⟨kh,s6 _ _ ah,hkh⟩,⟨s46 _ _ wr.hl,Paired.mono (fun _ _ z=>z.keep fun b xs e=>s46 _ _ e) wr.b,Paired.mono (fun _ _ z=>z.keep fun b xs e=>s46 _ _ e) wr.q,wr.l.same s46,wr.nd,fun a ha=>none_of (s0.trans g2.sm) (wr.fr a ha)⟩,?_⟩;refine gF.mpr ⟨g2.nd,wr.nd,fun a ha b hb z=>?_⟩;obtain ⟨o,y⟩:=g2.there a ha;rw [z,wr.fr b hb] at y
 cases y
end
theorem cm {t u:TS} {D:lL} {σ:St} {H:Hp} (h:t {D with nx:=u D} σ H):K6 t u D σ H:=h
theorem cW {te:TE} {g:TG} {D:lL} {σ:St} {H:Hp} (h:te σ H fun x H1=>g x σ H1 D.nx):HJ te g D σ H:=h
theorem bN {i:Nat} {v:V} {σ:St} {H:Hp} {Q:St->Hp->Prop} (h:Q (σ.set i (some v)) H):A3 i v σ H Q:=h
theorem qz {C:aa} {sp:Sp} {dvs:List V} {E:XK} {t:TA} {σ:St} {H:Hp} {Q:VK} (h:t σ H fun vs H1=>∀ x dx,H1 x=none->H1 dx=none->dx≠x ->
  sp (.ref x :: (vs++dvs)) (upd (upd H1 dx (.own x)) x (.ins C dx [])) (fun v H2=>v=.non/\Q (.ref x) H2) E):JQ C sp dvs E t σ H Q:=h
section
variable {X:Cx} {e:cM} {ta:TE} {f:Str} {pos:Pos}
theorem eC (K:af) (hK:X.K=K) (he:PE X e ta) (hb:kC e f X.env (fc e X.env)=fc e X.env):PE X (.Attribute e f pos) (Ld K ta f):=by
 rw [<- hK];exact cO he hb
theorem zv (K:af) (hK:X.K=K):jH X (.type "list") (fun xs H Q=>∃ p ys,xs=[.ref p]/\(SqL K H p ys\/SqT K H p ys)/\∀ l,H l=none->Q (.ref l) (upd H l (.lst ys))):=by
 rw [<- hK];exact mP
end
theorem BF {H:Hp} {n:Nat} {t:aa} {xs:List V} (ht:H t=some (.tup xs)\/H t=some (.lst xs)) (T:Tree H n (.ref t)):∃ m,n=m + 1/\∀ x∈xs,Tree H m x:=by
 cases n with
 | zero=>exact T.elim
 | succ m =>
  refine ⟨m,rfl,?_⟩
  rcases T with T | ⟨p,ys,e,h1,_,h2⟩
  ·exact T.elim
  ·cases e;have exy:xs=ys:=by
    rcases ht with ht | ht <;> rcases h1 with h1 | h1 <;> rw [ht] at h1 <;> cases h1 <;> rfl
   rw [exy];exact h2
theorem iG {H H':Hp} {n:Nat} {t:aa} {xs:List V} {v':V} (ht:H t=some (.tup xs)) (T:Tree H n (.ref t)) (al:Alike H H' n (.ref t) v'):∃ m t' ys,v'=.ref t'/\H' t'=some (.tup ys)/\aP (Alike H H' m) xs ys/\∀ x∈xs,Tree H m x:=by
 obtain ⟨m,rfl,h⟩:=BF (.inl ht) T;obtain ⟨t',ys,e,h1,h2⟩:=rY ht al;exact ⟨m,t',ys,e,h1,h2,h⟩
theorem vh {H H':Hp} {n:Nat} {t:aa} {xs:List V} {v':V} (ht:H t=some (.lst xs)) (T:Tree H n (.ref t)) (al:Alike H H' n (.ref t) v'):∃ m t' ys,v'=.ref t'/\H' t'=some (.lst ys)/\aP (Alike H H' m) xs ys/\∀ x∈xs,Tree H m x:=by
 obtain ⟨m,rfl,h⟩:=BF (.inr ht) T;obtain ⟨t',ys,e,h1,h2⟩:=lZ ht al;exact ⟨m,t',ys,e,h1,h2,h⟩
theorem dh {R:V->V->Prop} {x:V} {xs ys:List V} (r:aP R (x :: xs) ys):∃ y yr,ys=y :: yr/\R x y/\aP R xs yr:=by
 cases r with
 | cons a b=>exact ⟨_,_,rfl,a,b⟩
theorem mh {R:V->V->Prop} {ys:List V} (r:aP R [] ys):ys=[]:=by
 cases r;rfl
theorem iZ.alike {bs qs:List Str} {H H':Hp} {v:V} {F:Fm} (h:iZ bs qs H v F):∀ {n:Nat} {v':V},Tree H n v->Alike H H' n v v'->iZ bs qs H' v' F:=by
 induction h with
 | num h1 h2 =>
  intro n v' T al;obtain ⟨m,t',ys,rfl,g1,g2,_⟩:=iG h1 T al;rw [iz g2 (by intro x hx; simp only [au,aS,or_false] at hx; rcases hx with rfl | rfl <;> exact trivial)] at g1;exact .num g1 h2
 | box h1 h2 =>
  intro n v' T al;obtain ⟨m,t',ys,rfl,g1,g2,_⟩:=iG h1 T al;rw [iz g2 (by intro x hx; simp only [au,aS,or_false] at hx; rcases hx with rfl | rfl <;> exact trivial)] at g1;exact .box g1 h2
 | long h1 h2 =>
  intro n v' T al;obtain ⟨m,t',ys,rfl,g1,g2,_⟩:=iG h1 T al;rw [iz g2 (by intro x hx; simp only [au,aS,or_false] at hx; rcases hx with rfl | rfl <;> exact trivial)] at g1;exact .long g1 h2
 | got h1 =>
  intro n v' T al;obtain ⟨m,t',ys,rfl,g1,g2,_⟩:=iG h1 T al;rw [iz g2 (by intro x hx; simp only [au,aS,or_false] at hx; rcases hx with rfl | rfl <;> exact trivial)] at g1;exact .got g1
 | now h1 =>
  intro n v' T al;obtain ⟨m,t',ys,rfl,g1,g2,_⟩:=iG h1 T al;rw [iz g2 (by intro x hx; rw [aD.mp hx]; exact trivial)] at g1;exact .now g1
 | two h1 h2 _ _ i1 i2 =>
  intro n v' T al;obtain ⟨m,t',ys,rfl,g1,g2,tr⟩:=iG h1 T al;obtain ⟨y0,yr,rfl,a0,g2⟩:=dh g2;obtain ⟨y1,yr,rfl,a1,g2⟩:=dh g2;obtain ⟨y2,yr,rfl,a2,g2⟩:=dh g2;obtain rfl:=mh g2;have e0:=eW (v:=.str _) trivial a0;rw [e0] at g1;exact .two g1 h2 (i1 (tr _ (by simp)) a1) (i2 (tr _ (by simp)) a2)
theorem FmI.alike {bs qs:List Str} {H H':Hp} {v v':V} {F:Fm} {n:Nat} (h:FmI bs qs H v F) (T:Tree H n v) (al:Alike H H' n v v'):FmI bs qs H' v' F:=⟨h.1.alike T al,h.2⟩
theorem kX.alike {H H':Hp} {R R':List V->Prop} {v v':V} {n:Nat} (h:kX H R v) (T:Tree H n v) (al:Alike H H' n v v') (k:∀ m vs ys,R vs->aP (Alike H H' m) vs ys->(∀ x∈vs,Tree H m x)->R' ys):kX H' R' v':=by
 obtain ⟨l,vs,rfl,h1,h2,h3⟩:=h;obtain ⟨m,t',ys,rfl,g1,g2,tr⟩:=vh h1 T al;exact ⟨t',ys,rfl,g1,by rw [<- aZ g2]; exact h2,k m vs ys h3 g2 tr⟩
mutual
theorem eu.alike {bs qs:List Str} {H H':Hp}:∀ (d:Dd) (v v':V) (n:Nat),eu bs qs H d v->Tree H n v->Alike H H' n v v'->eu bs qs H' d v'
 | .put x f,v,v',n,h,T,al=>by
  obtain ⟨t,u,rfl,h1,h2,h3⟩:=(by simpa only [eu] using h);obtain ⟨m,t',ys,rfl,g1,g2,tr⟩:=iG h1 T al;obtain ⟨y0,yr,rfl,a0,g2⟩:=dh g2;obtain ⟨y1,yr,rfl,a1,g2⟩:=dh g2;obtain ⟨y2,yr,rfl,a2,g2⟩:=dh g2;obtain rfl:=mh g2;rw [eW (v:=.str _) trivial a0,eW (v:=.str _) trivial a1] at g1;simp only [eu];exact ⟨t',y2,rfl,g1,h2,h3.alike (tr _ (by simp)) a2⟩
 | .push x f,v,v',n,h,T,al=>by
  obtain ⟨t,u,rfl,h1,h2,h3⟩:=(by simpa only [eu] using h);obtain ⟨m,t',ys,rfl,g1,g2,tr⟩:=iG h1 T al;obtain ⟨y0,yr,rfl,a0,g2⟩:=dh g2;obtain ⟨y1,yr,rfl,a1,g2⟩:=dh g2;obtain ⟨y2,yr,rfl,a2,g2⟩:=dh g2;obtain rfl:=mh g2;rw [eW (v:=.str _) trivial a0,eW (v:=.str _) trivial a1] at g1;simp only [eu];exact ⟨t',y2,rfl,g1,h2,h3.alike (tr _ (by simp)) a2⟩
 | .pull q x o,v,v',n,h,T,al=>by
  obtain ⟨t,u,rfl,h1,h2,h3,h4⟩:=(by simpa only [eu] using h);obtain ⟨m,t',ys,rfl,g1,g2,tr⟩:=iG h1 T al;obtain ⟨y0,yr,rfl,a0,g2⟩:=dh g2;obtain ⟨y1,yr,rfl,a1,g2⟩:=dh g2;obtain ⟨y2,yr,rfl,a2,g2⟩:=dh g2;obtain ⟨y3,yr,rfl,a3,g2⟩:=dh g2;obtain rfl:=mh g2;rw [eW (v:=.str _) trivial a0,eW (v:=.str _) trivial a1,eW (v:=.str _) trivial a2] at g1;simp only [eu];exact ⟨t',y3,rfl,g1,h2,h3,h4.alike (tr _ (by simp)) a3 fun m vs ys a b c=>eX.alike o vs ys m a b c⟩
 | .draw x f,v,v',n,h,T,al=>by
  obtain ⟨t,u,rfl,h1,h2,h3⟩:=(by simpa only [eu] using h);obtain ⟨m,t',ys,rfl,g1,g2,tr⟩:=iG h1 T al;obtain ⟨y0,yr,rfl,a0,g2⟩:=dh g2;obtain ⟨y1,yr,rfl,a1,g2⟩:=dh g2;obtain ⟨y2,yr,rfl,a2,g2⟩:=dh g2;obtain rfl:=mh g2;rw [eW (v:=.str _) trivial a0,eW (v:=.str _) trivial a1] at g1;simp only [eu];exact ⟨t',y2,rfl,g1,h2,h3.alike (tr _ (by simp)) a2⟩
 | .send to sg sp rk a b,v,v',n,h,T,al=>by
  obtain ⟨t,u,u1,u2,rfl,h1,h2,h3,h4⟩:=(by simpa only [eu] using h);obtain ⟨m,t',ys,rfl,g1,g2,tr⟩:=iG h1 T al;obtain ⟨y0,yr,rfl,a0,g2⟩:=dh g2;obtain ⟨y1,yr,rfl,a1,g2⟩:=dh g2;obtain ⟨y2,yr,rfl,a2,g2⟩:=dh g2;obtain ⟨y3,yr,rfl,a3,g2⟩:=dh g2;obtain ⟨y4,yr,rfl,a4,g2⟩:=dh g2;obtain ⟨y5,yr,rfl,a5,g2⟩:=dh g2;obtain ⟨y6,yr,rfl,a6,g2⟩:=dh g2;obtain rfl:=mh g2;rw [eW (v:=.str _) trivial a0,eW (v:=.int _) trivial a1,eW (v:=.str _) trivial a2,eW (v:=.int _) trivial a4] at g1;simp only [eu];exact ⟨t',y3,y5,y6,rfl,g1,h2.alike (tr _ (by simp)) a3,h3.alike (tr _ (by simp)) a5,h4.alike (tr _ (by simp)) a6⟩
 | .ife f x y,v,v',n,h,T,al=>by
  obtain ⟨t,u,u1,u2,rfl,h1,h2,h3,h4⟩:=(by simpa only [eu] using h);obtain ⟨m,t',ys,rfl,g1,g2,tr⟩:=iG h1 T al;obtain ⟨y0,yr,rfl,a0,g2⟩:=dh g2;obtain ⟨y1,yr,rfl,a1,g2⟩:=dh g2;obtain ⟨y2,yr,rfl,a2,g2⟩:=dh g2;obtain ⟨y3,yr,rfl,a3,g2⟩:=dh g2;obtain rfl:=mh g2;rw [eW (v:=.str _) trivial a0] at g1;simp only [eu];exact ⟨t',y1,y2,y3,rfl,g1,h2.alike (tr _ (by simp)) a1,h3.alike (tr _ (by simp)) a2 fun m vs ys a b c=>eX.alike x vs ys m a b c,h4.alike (tr _ (by simp)) a3 fun m vs ys a b c=>eX.alike y vs ys m a b c⟩
 | .fin,v,v',n,h,T,al=>by
  obtain ⟨t,rfl,h1⟩:=(by simpa only [eu] using h);obtain ⟨m,t',ys,rfl,g1,g2,tr⟩:=iG h1 T al;obtain ⟨y0,yr,rfl,a0,g2⟩:=dh g2;obtain rfl:=mh g2;rw [eW (v:=.str _) trivial a0] at g1;simp only [eu];exact ⟨t',rfl,g1⟩
theorem eX.alike {bs qs:List Str} {H H':Hp}:∀ (d:Ds) (vs ys:List V) (n:Nat),eX bs qs H d vs->aP (Alike H H' n) vs ys->(∀ x∈vs,Tree H n x)->eX bs qs H' d ys
 | .nil,vs,ys,n,h,al,T=>by
  have e:vs=[]:=by simpa only [eX] using h
  subst e;obtain rfl:=mh al;simp only [eX]
 | .cons d r,vs,ys,n,h,al,T=>by
  obtain ⟨v,vr,rfl,h1,h2⟩:=(by simpa only [eX] using h);obtain ⟨y,yr,rfl,a,b⟩:=dh al;simp only [eX];exact ⟨y,yr,rfl,eu.alike d v y n h1 (T v ax) a,eX.alike r vr yr n h2 b fun x hx=>T x (ag _ hx)⟩
end
theorem pQ {α:Type} {R R':V->α->Prop} {S:V->V->Prop} {T:V->Prop} (f:∀ v a v',R v a->S v v'->T v->R' v' a):∀ {xs ys:List V} {as:List α},aP R xs as->aP S xs ys->(∀ x∈xs,T x)->aP R' ys as:=by
 intro xs ys as p
 induction p generalizing ys with
 | nil =>
  intro q _
  cases q;exact .nil
 | cons a b ih =>
  intro q t
  cases q with
  | cons c d=>exact .cons (f _ _ _ a c (t _ ax)) (ih d fun x hx=>t x (ag _ hx))
theorem vg.alike {bs qs:List Str} {ds:List Int} {hs:List (Str×Ds)} {H H':Hp} {v v':V} {n:Nat} (h:vg bs qs ds hs H v) (T:Tree H n v) (al:Alike H H' n v v'):vg bs qs ds hs H' v':=by
 obtain ⟨t,bl,ql,dl,hl,nm,vb,hv,rfl,h1,h2,h3,h4,h5,h6,h7⟩:=h.ex;obtain ⟨m,t',ys,rfl,g1,g2,tr⟩:=iG h1 T al;obtain ⟨y0,yr,rfl,a0,g2⟩:=dh g2;obtain ⟨y1,yr,rfl,a1,g2⟩:=dh g2;obtain ⟨y2,yr,rfl,a2,g2⟩:=dh g2;obtain ⟨y3,yr,rfl,a3,g2⟩:=dh g2;obtain ⟨y4,yr,rfl,a4,g2⟩:=dh g2;obtain rfl:=mh g2;obtain ⟨m1,b',zs1,rfl,c1,d1,t1⟩:=vh h2 (tr _ (by simp)) a1;obtain ⟨m2,q',zs2,rfl,c2,d2,t2⟩:=vh h4 (tr _ (by simp)) a2;obtain ⟨m3,e',zs3,rfl,c3,d3,t3⟩:=vh h5 (tr _ (by simp)) a3;obtain ⟨m4,f',zs4,rfl,c4,d4,t4⟩:=vh h6 (tr _ (by simp)) a4;rw [iz d2 (by intro x hx; obtain ⟨z,_,rfl⟩:=cC.mp hx; exact trivial)] at c2;rw [iz d3 (by intro x hx; obtain ⟨z,_,rfl⟩:=cC.mp hx; exact trivial)] at c3;refine ⟨t',b',q',e',f',y0,zs1,zs4,rfl,g1,c1,pQ (fun v a v' x y z=>?_) h3 d1 t1,c2,c3,c4,pQ (fun v a v' x y z=>?_) h7 d4 t4⟩
 ·obtain ⟨p,k,rfl,hp⟩:=x;obtain ⟨m',p',ws,rfl,k1,k2,_⟩:=iG hp z y;obtain ⟨w0,wr,rfl,b0,k2⟩:=dh k2;obtain ⟨w1,wr,rfl,b1,k2⟩:=dh k2;obtain rfl:=mh k2;rw [eW (v:=.str _) trivial b0] at k1;exact ⟨p',w1,rfl,k1⟩
 ·obtain ⟨p,u,rfl,hp,hu⟩:=x;obtain ⟨m',p',ws,rfl,k1,k2,tr'⟩:=iG hp z y;obtain ⟨w0,wr,rfl,b0,k2⟩:=dh k2;obtain ⟨w1,wr,rfl,b1,k2⟩:=dh k2;obtain rfl:=mh k2;rw [eW (v:=.str _) trivial b0] at k1;exact ⟨p',w1,rfl,k1,hu.alike (tr' _ (by simp)) b1 fun m vs ys a b c=>eX.alike _ vs ys m a b c⟩
def Ko (K:af):List V->Hp->VK->Prop:=fun xs H Q=>∃ p ys,xs=[.ref p]/\(SqL K H p ys\/SqT K H p ys)/\Q (.int ys.length) H
theorem fg {X:Cx} (K:af) (hK:X.K=K):jH X (.builtin "len") (Ko K):=by
 rw [<- hK];exact gP
theorem FY {X:Cx} (K:af) (hK:X.K=K):IxR X (Lh K):=by
 rw [<- hK];exact dI
theorem ny {X:Cx} (K:af) (hK:X.K=K):IxR X (rIxT K):=by
 rw [<- hK];exact cz
theorem Jb {X:Cx} {pos:Pos} {es:List cM} {k:Nat} {t:TGs} {n:Nat} (K:af) (hK:X.K=K) (hc:X.calm=true) (h:PGs X es t)
  (hn:(j4 es X.env).length=n:=by rfl) (hst:(j4 es X.env).findIdx? (·.1)=none:=by rfl):PG X (.Tuple es k pos) (gTup K n t):=by
 rw [<- hK];exact uC hc h hn hst
theorem De:1<=aB:=by decide
theorem fb {te:TE} {D:lL} {σ:St} {H:Hp} (h:te σ H D.rt):tRet te D σ H:=h
theorem Dh {K:af} {m C dx ml:aa} {fs:List (Str×V)} {f:Str} {ms:List V} {n i:Nat} {g:TG} {tc:L2.TT} {te:TE} {σ:St} {H:Hp} {Q:VK} (hv:σ[i]?=some (some (.ref m))) (hm:H m=some (.ins C dx fs)) (cl:Cls K C) (na:d8 K C f) (lk:fs.lookup f=some (.ref ml)) (hml:H ml=some (.lst ms)) (hlen:ms.length < 1000)
  (Pv:Nat->List V->Hp->Prop) (h0:Pv 0 [] H) (hl:∀ i ys H,i<=ms.length->Pv i ys H->ys.length < aB)
  (hs:∀ i ys H,i < ms.length->Pv i ys H->g (.int (0 + i)) (cB n none++σ) H fun σ2 H2=>σ2.drop n=σ/\tc σ2 H2 fun b H3=>if b=true then te σ2 H3 fun y H4=>Pv (i + 1) (ys++[y]) H4 else Pv (i + 1) ys H3)
  (hd:∀ ys H,Pv ms.length ys H->∀ p,H p=none->Q (.ref p) (upd H p (.lst ys))):uS n (En (nI (tCB (Ko K) (nI (Ld K (HI i) f) Ab)) Ab)) g tc te σ H Q:=by
 refine ⟨.ref m,hv,m,C,dx,fs,.ref ml,rfl,hm,cl,na,lk,ml,ms,rfl,.inl (SqL.of hml),(ms.length:Int),rfl,by omega,by omega,?_⟩;rw [tJ];refine ⟨fun i k ys H=>k=ms.length - i/\i<=ms.length/\Pv i ys H,⟨ms.length,by simp,bT _,h0⟩,?_⟩;rintro i k ys H ⟨rfl,hi,pv'⟩;refine ⟨hl i ys H hi pv',?_⟩
 by_cases lt:i < ms.length
 ·refine .inr ⟨lt,Pv (i + 1),fun ys' H' p'=>⟨ms.length - (i + 1),by omega,rfl,lt,p'⟩,fun x H' y=>?_⟩;obtain ⟨e,y⟩:=y;subst e y;exact hs i ys _ lt pv'
 ·have e:i=ms.length:=by omega
  subst e;exact .inl ⟨aC _,hd ys H pv'⟩
theorem AL {K:af} {a:aa} {xs:List V} {n i:Nat} {g:TG} {tc:L2.TT} {te:TE} {σ:St} {H:Hp} {Q:VK} (hv:σ[i]?=some (some (.ref a))) (hx:SqL K H a xs) (Pv:Nat->List V->Hp->Prop) (h0:Pv 0 [] H) (hl:∀ i ys H,i<=xs.length->Pv i ys H->SqL K H a xs/\ys.length < aB)
  (hs:∀ i x t ys H,xs[i]?=some x->Pv i ys H->H t=none->g (.ref t) (cB n none++σ) (upd H t (.tup [.int i,x])) fun σ2 H2=>σ2.drop n=σ/\tc σ2 H2 fun b H3=>if b=true then te σ2 H3 fun y H4=>Pv (i + 1) (ys++[y]) H4 else Pv (i + 1) ys H3)
  (hd:∀ ys H,Pv xs.length ys H->∀ p,H p=none->Q (.ref p) (upd H p (.lst ys))):uS n (J0 K (nI (HI i) Ab)) g tc te σ H Q:=
 ⟨.ref a,hv,a,rfl,⟨xs,hx⟩,CW Pv h0 hl hs hd⟩
def v9 (H:Hp) (v:V) (e:Ev):Prop:=∃ t,v=.ref t/\H t=some (.tup [.int e.t,.int e.r,.int e.to,.str e.sg,.int e.a,.int e.b])
theorem v9.same {H H':Hp} (s:bf H H') {v:V} {e:Ev} (h:v9 H v e):v9 H' v e:=by
 obtain ⟨t,e,h⟩:=h;exact ⟨t,e,s _ _ h⟩
def atP (e:Ev) (i:Nat):Ev:={e with fr:=-1,c:=i}
section
variable {P:aJ} {w:bJ} {K:af} {mg:Str->Option ae} {base:cu} {f fP CB:aa} {fd fdP:bR}
inductive FZ (vs:List V) (H:Hp) (Q:VK) (_e:XK):Prop where
 | mk (sl:aa) (svs:List V) (es:List Ev) (_:vs=[.ref sl]) (_:H sl=some (.lst svs)) (_:aP (v9 H) svs es) (_:es.length < 1000) (_:∀ (G:Hp) (l:aa) (ys:List V),bf H G->H l=none->G l=some (.lst ys)->ys.length=es.length->(∀ i y e,ys[i]?=some y->es[i]?=some e->gQ G y (atP e i))->Q (.ref l) G):FZ vs H Q _e
def Kq:Sp:=fun vs H Q _e=>FZ vs H Q _e
theorem scPf:bK ["signs"] ["signs"] (aL gj):={}
theorem ndPf:((["place","sign"]:List Str)++(["signs"]:List Str)).Nodup:=by decide +kernel
theorem AM (D:Df K mg "pending_at_first" gj ["signs"] f fd) (ME:mg "enumerate"=none):bA P w K mg base CX0 1 f fd ["signs"] Kq:=by
 refine D.F.ok scPf (fun vs H Q E h=>?_) (fun cdv A outer s H vs Q E hr h=>?_)
 ·obtain ⟨sl,svs,es,rfl,_⟩:=h;rfl
 obtain ⟨sl,svs,es,rfl,hsl,ps,les,k⟩:=h;refine ⟨_,ay (bM (mU ["place","sign"] (iF.open (NN:=["signs"]) (N:=["signs"]) (sc:=aL gj) rfl rfl (by decide +kernel) rfl (by decide +kernel) (by decide +kernel) rfl (by decide +kernel)) rfl (Iz (by rfl) ME (ao (pv 0) ai))
  (fun _ _ _ _=>Jb (n:=2) K (by rfl) rfl (iJ (dQ (i:=0) ndPf rfl (Or.inl rfl)) (iJ (dQ (i:=1) ndPf rfl (Or.inl rfl)) qI))) (fun _ _ _ _=>j0)
  (fun _ _ _ _=>dR (ao (dR (ao (bU (ny K (by rfl)) (pv 1) aw (by intro _ _; rfl)) (ao (bU (ny K (by rfl)) (pv 1) aw (by intro _ _; rfl)) (ao (JM Ep aw) (ao (pv 0) ai)))))
   (ao (bU (ny K (by rfl)) (pv 1) aw (by intro _ _; rfl)) (ao (bU (ny K (by rfl)) (pv 1) aw (by intro _ _; rfl)) (ao (bU (ny K (by rfl)) (pv 1) aw (by intro _ _; rfl)) (ao (bU (ny K (by rfl)) (pv 1) aw (by intro _ _; rfl)) ai)))))))),?_⟩
 have big:=dY;have lps:=aZ ps;refine fb ?_;refine AL (K:=K) (a:=sl) (xs:=svs) rfl (SqL.of hsl) (fun i ys G=>ys.length=i/\bf H G/\∀ j y e,ys[j]?=some y->es[j]?=some e->gQ G y (atP e j)) ⟨rfl,bf.refl _,fun j y e h=>by simp at h⟩ ?_ ?_ ?_
 ·rintro i ys G hi ⟨h1,h2,_⟩;exact ⟨SqL.of (h2 _ _ hsl),by omega⟩
 ·rintro i x t ys G hi ⟨h1,h2,h3⟩ ht;obtain ⟨e,he,ts,rfl,hts⟩:=me ps hi;have st_:=aF ht (.tup [.int i,.ref ts]);have hq:=st_ _ _ (h2 _ _ hts);refine ⟨t,_,rfl,SqT.of ah,rfl,_,_,rfl,_,_,rfl,rfl,?_⟩;refine ⟨rfl,?_⟩;unfold vU;refine iL ?_;refine ⟨_,rfl,ts,_,_,_,rfl,rfl,SqT.of hq,rfl,_,rfl,ts,_,_,_,rfl,rfl,SqT.of hq,rfl,_,rfl,_,rfl,(by show 4<=aB; decide),fun kt hkt=>?_⟩;have sk:=aF hkt (.tup [.int e.t,.int e.r,.int (-1),.int i]);have hq2:=sk _ _ hq;refine ⟨_,rfl,ts,_,_,_,rfl,rfl,SqT.of hq2,rfl,_,rfl,ts,_,_,_,rfl,rfl,SqT.of hq2,rfl,_,rfl,ts,_,_,_,rfl,rfl,SqT.of hq2,rfl,_,rfl,ts,_,_,_,rfl,rfl,SqT.of hq2,rfl,(by show 5<=aB; decide),fun et het=>?_⟩;have se:=aF het (.tup [.ref kt,.int e.to,.str e.sg,.int e.a,.int e.b]);have sA:=(st_.trans sk).trans se;refine ⟨by rw [aA,h1]; rfl,h2.trans sA,fun j y e' hy he'=>?_⟩
  rcases tN j ys.length with lt | ge
  ·rw [ff lt] at hy;exact (h3 j y e' hy he').same sA
  ·rw [dX ge] at hy;have ej:j=i:=by
    by_cases c:j - ys.length=0
    ·omega
    ·rw [List.getElem?_cons,if_neg c] at hy;simp at hy
   subst ej;rw [h1,tQ] at hy
   cases hy;rw [he] at he'
   cases he';exact ⟨et,kt,rfl,ah,se _ _ ah⟩
 ·rintro ys G ⟨h1,h2,h3⟩ l hl;have sl':=aF hl (.lst ys);exact k _ l ys (h2.trans sl') (none_of h2 hl) ah (by omega) fun i y e hy he=>(h3 i y e hy he).same sl'
inductive Mc (vs:List V) (H:Hp) (Q:VK) (_e:XK):Prop where
 | mk (q:aa) (v:V) (_:vs=[.ref q,v]) (_:H q=some (.lst [])) (_:Q (.int 0) H):Mc vs H Q _e
inductive Md (vs:List V) (H:Hp) (Q:VK) (_e:XK):Prop where
 | mk (q:aa) (v:V) (_:vs=[.ref q,v]) (_:H q=some (.lst [])) (_:Q .non (upd H q (.lst [v]))):Md vs H Q _e
theorem w9:bK ["falling","thing","low","high","middle"] ["falling","thing"] (aL m8):={}
theorem scPic:bK ["falling","thing"] ["falling","thing"] (aL qS):={}
def F0 (r e s:V):List (Str×V):=cD "states" s (cD "ending" e (cD "records" r []))
structure BkT (K:af) (mg:Str->Option ae) (CB:aa):Prop where
 cl:Cls K CB
 nR:d8 K CB "records"
 nE:d8 K CB "ending"
 nS:d8 K CB "states"
 m:mg "Book"=some (.ref CB)
inductive Kr (CB:aa) (vs:List V) (H:Hp) (Q:VK) (_e:XK):Prop where
 | mk (b dx:aa) (r e s:V) (_:vs=[.ref b,r,e,s]) (_:H b=some (.ins CB dx [])) (_:∀ G,G b=some (.ins CB dx (F0 r e s))->But b H G->Q .non G):Kr CB vs H Q _e
def Me (CB:aa):Sp:=fun vs H Q _e=>Kr CB vs H Q _e
theorem scBk:bK ["self","records","ending","states"] ["self","records","ending","states"] (aL o4):={}
theorem Ks (F:Fun K "__init__" "Book.__init__" o4 f fd) (T:BkT K mg CB):bA P w K mg base CX0 1 f fd ["self","records","ending","states"] (Me CB):=by
 refine F.ok scBk (fun vs H Q E h=>?_) (fun cdv A outer s H vs Q E hr h=>?_)
 ·obtain ⟨b,dx,r,e,s',rfl,_⟩:=h;rfl
 obtain ⟨b,dx,r,e,s',rfl,hb,k⟩:=h;refine ⟨_,aj (d9 (pv 0) (pv 1) rfl) (aj (d9 (pv 0) (pv 2) rfl) (ay (d9 (pv 0) (pv 3) rfl))),?_⟩;have l1:=gH "records" r [];have l2:=gH "ending" e (cD "records" r []);simp only [cK] at l1;refine ⟨_,rfl,_,rfl,b,CB,dx,[],rfl,hb,T.cl,T.nR,(by show 0 < 1000; decide),_,rfl,_,rfl,b,CB,dx,_,rfl,ah,T.cl,T.nE,(by omega),_,rfl,_,rfl,b,CB,dx,_,rfl,ah,T.cl,T.nS,(by omega),?_⟩;exact k _ ah (((But.upd b H _).trans (But.upd b _ _)).trans (But.upd b _ _))
theorem Mf (r e s:V):(F0 r e s).lookup ("records":Str)=some r:=rfl
theorem bk_e (r e s:V):(F0 r e s).lookup ("ending":Str)=some e:=rfl
def pe (wd:Str):Sp:=fun vs H Q _=>∃ a,vs=[a]/\Q (.str wd) H
theorem Di:bK ["self"] ["self"] (aL lF):={}
theorem qA (F:Fun K "word" "Nought.word" lF f fd):oW P w K mg base CX0 1 f fd ["self"] (pe "nought"):=by
 refine F.okH Di (fun vs H Q E h=>?_) (fun cdv A outer s H vs Q E h=>?_)
 ·obtain ⟨a,rfl,_⟩:=h;rfl
 obtain ⟨a,rfl,q⟩:=h;exact ⟨_,ay (bM bX),q⟩
end
mutual
def Dd.toOk (m:Int):Dd->Prop
 | .send to _ _ _ _ _=>0<=to/\to < m
 | .pull _ _ o=>o.toOk m
 | .ife _ t e=>t.toOk m/\e.toOk m
 | _=>True
def Ds.toOk (m:Int):Ds->Prop
 | .nil=>True
 | .cons d r=>d.toOk m/\r.toOk m
end
def ddz:Nat->Nat
 | 0=>1
 | n + 1=>1 + 6 * ddz n
structure MD where
 nm:Str
 bs:List Str
 qs:List Str
 ds:List Int
 hs:List (Str×Ds)
 ps:List (Str×Int)
def AN (H:Hp) (v:V) (M:MD):Prop:=∃ (t bl ql:aa) (n0 x3 x4:V) (vb:List V),v=.ref t/\H t=some (.tup [n0,.ref bl,.ref ql,x3,x4])/\H bl=some (.lst vb)/\gz H M.ps vb/\H ql=some (.lst (M.qs.map V.str))
structure MoI (m:Int) (H:Hp) (v:V) (M:MD):Prop where
 ma:vg M.bs M.qs M.ds M.hs H v
 fs:AN H v M
 kb:M.ps.map (·.1)=M.bs
 nb:M.bs.Nodup
 nq:M.qs.Nodup
 lb:M.bs.length<=9
 lq:M.qs.length<=9
 ld:M.ds.length<=100
 lh:M.hs.length<=9
 wb:∀ q∈M.ps,Wo q.2
 hk:∀ q∈M.hs,q.2.toOk m/\q.2.deep<=4/\q.2.size<=3 * ddz 4
theorem AN.same {H H':Hp} (s:bf H H') {v:V} {M:MD} (h:AN H v M):AN H' v M:=by
 obtain ⟨t,bl,ql,n0,x3,x4,vb,e,h1,h2,h3,h4⟩:=h;exact ⟨t,bl,ql,n0,x3,x4,vb,e,s _ _ h1,s _ _ h2,h3.same s,s _ _ h4⟩
theorem MoI.same {m:Int} {H H':Hp} (s:bf H H') {v:V} {M:MD} (h:MoI m H v M):MoI m H' v M:=
 ⟨h.ma.same s,h.fs.same s,h.kb,h.nb,h.nq,h.lb,h.lq,h.ld,h.lh,h.wb,h.hk⟩
def ye (m:Int) (H:Hp) (ml:aa) (Ms:List MD):Prop:=∃ xs,H ml=some (.lst xs)/\aP (MoI m H) xs Ms
theorem ye.same {m:Int} {H H':Hp} (s:bf H H') {ml:aa} {Ms:List MD} (h:ye m H ml Ms):ye m H' ml Ms:=by
 obtain ⟨xs,h1,h2⟩:=h;exact ⟨xs,s _ _ h1,Paired.mono (fun _ _ z=>z.same s) h2⟩
abbrev pf (zs:List (V×List Int)):Prop:=zs.Pairwise (fun a b=>HT.lexLt b.2 a.2=true)
theorem pf.put {zs:List (V×List Int)} {x:V×List Int} {i:Nat} (h:pf zs) (h1:∀ (j:Nat) z,j < i->zs[j]?=some z->HT.lexLt x.2 z.2=true) (h2:∀ (j:Nat) z,i<=j->zs[j]?=some z->HT.lexLt z.2 x.2=true):pf (zs.take i++x :: zs.drop i):=by
 have a1:∀ a∈zs.take i,HT.lexLt x.2 a.2=true:=fun a ha=>by
  obtain ⟨j,hj⟩:=dM ha;have lt:j < (zs.take i).length:=(aE.mp hj).1;rw [df] at lt;rw [yB (by omega)] at hj;exact h1 j a (by omega) hj
 have a2:∀ a∈zs.drop i,HT.lexLt a.2 x.2=true:=fun a ha=>by
  obtain ⟨j,hj⟩:=dM ha;rw [D0] at hj;exact h2 (i + j) a (by omega) hj
 have hh:pf (zs.take i++zs.drop i):=by
  rw [pS];exact h
 obtain ⟨p1,p2,p3⟩:=gG.mp hh;refine gG.mpr ⟨p1,gp.mpr ⟨fun b hb=>a2 b hb,p2⟩,fun a ha b hb=>?_⟩
 rcases au.mp hb with z | z
 ·rw [z];exact a1 a ha
 ·exact p3 a ha b z
theorem pf.at_ {zs:List (V×List Int)} (h:pf zs) {i j:Nat} (lt:i < j) {y z:V×List Int} (hi:zs[i]?=some y) (hj:zs[j]?=some z):HT.lexLt z.2 y.2=true:=by
 obtain ⟨l1,e1⟩:=aE.mp hi;obtain ⟨l2,e2⟩:=aE.mp hj;have:=c9.mp h i j l1 l2 lt;rw [e1,e2] at this;exact this
section
variable {P:aJ} {w:bJ} {K:af} {mg:Str->Option ae} {base:cu} {f fP:aa} {fd fdP:bR}
inductive F3 (vs:List V) (H:Hp) (Q:VK) (_e:XK):Prop where
 | mk (q b:aa) (zs:List (V×List Int)) (n:List Int) (_:vs=[.ref q,.ref b]) (_:H q=some (.lst (zs.map (·.1)))) (_:(∀ z∈zs,AB H z)) (_:pf zs) (_:AB H (.ref b,n)) (_:n∉zs.map (·.2)) (_:zs.length<=10000000) (_:∀ i:Nat,i<=zs.length->pf (zs.take i++(V.ref b,n) :: zs.drop i)->Q (.int i) H):F3 vs H Q _e
def Kt:Sp:=fun vs H Q _e=>F3 vs H Q _e
theorem Mg (D:Df K mg "place_in" m8 ["falling","thing"] f fd) (B:Bl mg):bA P w K mg base CX0 1 f fd ["falling","thing"] Kt:=by
 refine D.F.ok w9 (fun vs H Q E h=>?_) (fun cdv A outer s H vs Q E hr h=>?_)
 ·obtain ⟨q,b,zs,n,rfl,_⟩:=h;rfl
 obtain ⟨q,b,zs,n,rfl,hq,hz,hf,hb,nn,hl,k⟩:=h;have hu:=kQ hr;obtain ⟨b0,kb,rb,eb,hb1,hb2⟩:=hb
 cases eb;refine ⟨_,aj (bC (i:=2) w9.nd rfl (Or.inl rfl) aw)
  (aj (bC (i:=3) w9.nd rfl (Or.inl rfl) (cL gP (by rfl) B.len cA (ao (pv 0) ai)))
  (aj (uD cR (bP p7 (pv 2) (pv 3) (cb _))
   (aj (bC (i:=4) w9.nd rfl (Or.inl rfl) (cT HN (cT gK (pv 2) (pv 3)) aw))
   (ay (cS (bP (LD hu) (bU dI (pv 0) (pv 4) (fun _ _=>rfl)) (pv 1) (cb _))
    (ay (bC (i:=2) w9.nd rfl (Or.inl rfl) (cT gK (pv 4) aw)))
    (ay (bC (i:=3) w9.nd rfl (Or.inl rfl) (pv 4)))))))
  (ay (bM (pv 2))))),?_⟩
 refine ⟨_,rfl,q,_,rfl,.inl (SqL.of hq),?_⟩;refine yM (fun σ H2=>∃ (lo hi:Nat) (m:Option V),σ=[some (.ref q),some (.ref b),some (.int lo),some (.int hi),m]/\H2=H/\lo<=hi/\hi<=zs.length /\
   (∀ (j:Nat) (z:V×List Int),j < lo->zs[j]?=some z->HT.lexLt n z.2=true)/\∀ (j:Nat) (z:V×List Int),hi<=j->zs[j]?=some z->HT.lexLt n z.2=false)
  (fun σ _=>match σ with | [_,_,some (.int lo),some (.int hi),_]=>(hi - lo).toNat | _=>0) ?_ ?_ ?_
 ·refine ⟨0,zs.length,none,?_,rfl,bT _,aC _,fun j z h=>absurd h (hW _),fun j z h e=>?_⟩
  ·rw [ar];rfl
  ·rw [gs (by omega)] at e
   cases e
 ·rintro σ H2 ⟨lo,hi,m,rfl,rfl,h1,h2,h3,h4⟩;refine ⟨_,rfl,_,rfl,_,_,rfl,rfl,_,rfl,?_⟩;refine fV (fun c=>?_) (fun c=>?_)
  ·have c:lo < hi:=by
    have z:=of_decide_eq_true c;omega
   refine ⟨_,rfl,_,rfl,_,_,rfl,rfl,_,_,rfl,rfl,⟨by decide,by decide⟩,?_⟩;have em:((lo:Int) + (hi:Int)) / 2=(((lo + hi) / 2:Nat):Int):=by omega
   have lm:(lo + hi) / 2 < zs.length:=by omega
   obtain ⟨z,hz0⟩:∃ z,zs[(lo + hi) / 2]?=some z:=⟨_,aM lm⟩;have mz:=bV hz0;obtain ⟨az,kz,rz,ez,hz1,hz2⟩:=hz z mz;have ea:(zs.map (·.1))[(lo + hi) / 2]?=some (.ref az):=by rw [cI,hz0,Fg,ez]
   have nz:z.2≠n:=fun y=>nn (by rw [<- y]; exact iR mz);refine ⟨_,rfl,_,rfl,q,_,_,_,rfl,rfl,SqL.of hq,(by rw [em]; exact jB ea),_,rfl,az,b,kz,kb,z.2,n,rz,rb,rfl,rfl,hz1,hb1,hz2,hb2,nz,_,rfl,?_⟩;refine fV (fun g=>?_) (fun g=>?_)
   ·refine ⟨_,rfl,_,_,rfl,rfl,⟨(lo + hi) / 2 + 1,hi,some (.int (((lo:Int) + (hi:Int)) / 2)),?_,rfl,by omega,h2,fun j y hj e=>?_,h4⟩,?_⟩
    ·have e2:(((lo + hi) / 2 + 1:Nat):Int)=((lo:Int) + (hi:Int)) / 2 + 1:=by omega
     rw [e2];rfl
    ·by_cases ej:j=(lo + hi) / 2
     ·rw [ej,hz0] at e
      cases e;exact g
     ·exact HT.lx_trans g (hf.at_ (show j < (lo + hi) / 2 by omega) e hz0)
    ·show ((hi:Int) - (((lo:Int) + (hi:Int)) / 2 + 1)).toNat < ((hi:Int) - (lo:Int)).toNat;omega
   ·refine ⟨_,rfl,⟨lo,(lo + hi) / 2,some (.int (((lo:Int) + (hi:Int)) / 2)),?_,rfl,by omega,by omega,h3,fun j y hj e=>?_⟩,?_⟩
    ·rw [<- em];rfl
    ·have g':HT.lexLt n z.2=false:=by
      cases e':HT.lexLt n z.2 with
      | false=>rfl
      | true=>exact absurd e' g
     by_cases ej:j=(lo + hi) / 2
     ·rw [ej,hz0] at e
      cases e;exact g'
     ·have z1:=hf.at_ (show (lo + hi) / 2 < j by omega) hz0 e
      cases e':HT.lexLt n y.2 with
      | false=>rfl
      | true =>
       have z2:=HT.lx_trans e' z1;rw [g'] at z2
       cases z2
    ·show ((((lo:Int) + (hi:Int)) / 2) - (lo:Int)).toNat < ((hi:Int) - (lo:Int)).toNat;omega
  ·have e:lo=hi:=by
    have z:¬ ((lo:Int) < (hi:Int)):=fun z=>c (decide_eq_true z);omega
   subst e;refine ⟨_,rfl,k lo h2 (hf.put h3 fun j z hj e=>?_)⟩;exact HT.lx_of_not (h4 j z hj e) fun y=>nn (by
    have y:n=z.2:=y;rw [y];exact iR (bV e))
 ·rintro σ H2 Q1 Q2 hq2 h;obtain ⟨a1,e1,a2,e2,i,j,e3,e4,b',e5,h⟩:=h;exact ⟨a1,e1,a2,e2,i,j,e3,e4,b',e5,hq2 _ _ h⟩
inductive F4 (vs:List V) (H:Hp) (Q:VK) (_e:XK):Prop where
 | mk (q b:aa) (zs:List (V×List Int)) (n:List Int) (_:vs=[.ref q,.ref b]) (_:H q=some (.lst (zs.map (·.1)))) (_:(∀ z∈zs,AB H z)) (_:pf zs) (_:AB H (.ref b,n)) (_:n∉zs.map (·.2)) (_:zs.length<=10000000) (_:∀ zs':List (V×List Int),zs'.Perm ((V.ref b,n) :: zs)->pf zs'->Q .non (upd H q (.lst (zs'.map (·.1))))):F4 vs H Q _e
def BG:Sp:=fun vs H Q _e=>F4 vs H Q _e
theorem AO (D:Df K mg "put_in" qS ["falling","thing"] f fd) (DP:Df K mg "place_in" m8 ["falling","thing"] fP fdP) (B:Bl mg):bA P w K mg base CX0 2 f fd ["falling","thing"] BG:=by
 have GP:bA P w K mg base CX0 1 fP fdP ["falling","thing"] Kt:=Mg DP B;refine D.F.ok scPic (fun vs H Q E h=>?_) (fun cdv A outer s H vs Q E hr h=>?_)
 ·obtain ⟨q,b,zs,n,rfl,_⟩:=h;rfl
 obtain ⟨q,b,zs,n,rfl,hq,hz,hf,hb,nn,hl,k⟩:=h;refine ⟨_,ay (eI (lQ bZ PySem.F.slot_list_insert PySem.F.type_list_insert CJ (pv 0) (ao (aK GP hr rfl DP.m DP.F.kp DP.b .nil bj (ao (pv 0) (ao (pv 1) ai))) (ao (pv 1) ai)))),?_⟩;have sl:10000000 < aB:=by decide
 refine ⟨_,rfl,.inl ⟨rfl,_,SqL.of hq⟩,_,rfl,_,rfl,q,b,zs,n,rfl,hq,hz,hf,hb,nn,hl,fun i hi fz=>⟨_,rfl,q,_,i,.ref b,rfl,rfl,hq,by rw [ar]; exact hi,by rw [ar]; omega,?_⟩⟩;have z:=k (zs.take i++(V.ref b,n) :: zs.drop i) ?_ fz
 ·rw [cg,bQ,yI,List.map_drop] at z;exact z
 ·refine HC.trans ?_;rw [pS]
end
structure Sta where
 bx:List (Str×Int)
 qu:List (Str×List Int)
 dr:Nat
 se:Int
def Sta.w (s:Sta):Wk:=w0 s.bx s.qu s.dr s.se
structure Rec where
 h:Ev
 wb:List (Str×Int)
 wq:List (Str×List Int)
 out:List Ev
inductive Stp where
 | fin (h:Ev)
 | flt (e:Flt) (h:Ev)
inductive End where
 | empty
 | cut
 | stp (s:Stp)
structure RS where
 sts:List Sta
 pd:List Ev
 re:Option Ev
 sp:Option Stp
def Ev.key (e:Ev):List Int:=[e.t,e.r,e.fr,e.c]
def vi (x:Ev):List Ev->List Ev
 | []=>[x]
 | y :: ys=>if HT.lexLt x.key y.key=true then y :: vi x ys else x :: y :: ys
def og (xs pd:List Ev):List Ev:=xs.foldl (fun p e=>vi e p) pd
abbrev lu (es:List Ev):Prop:=es.Pairwise (fun a b=>HT.lexLt b.key a.key=true)
def gU (r:RS) (left:Int):Option End:=match r.sp with
 | some s=>some (.stp s)
 | none=>if r.pd.isEmpty=true then some .empty else if left<=0 then some .cut else none
def gA (Ms:List MD) (r:RS):RS×List Rec:=match r.pd.getLast? with
 | none=>(r,[])
 | some h=>match Ms[h.to.toNat]?,r.sts[h.to.toNat]? with
  | some M,some s=>(match doS h M.ds (jh M.hs h.sg) s.w with
   | .error e=>({r with pd:=r.pd.dropLast,sp:=some (.flt e h)},[])
   | .ok w=>(⟨r.sts.set h.to.toNat ⟨w.bx,w.qu,w.dr,w.se⟩,og w.out r.pd.dropLast,some h,if w.en=true then some (.fin h) else none⟩,[⟨h,wrB M.bs w,wrQ M.qs w,w.out⟩]))
  | _,_=>(r,[])
def itR (Ms:List MD) (r:RS):Nat->RS×List Rec
 | 0=>(r,[])
 | n + 1=>((gA Ms (itR Ms r n).1).1,(itR Ms r n).2++(gA Ms (itR Ms r n).1).2)
theorem mi (x:Ev):∀ ys:List Ev,(vi x ys).Perm (x :: ys)
 | []=>iY _
 | y :: ys=>by
  unfold vi
  split
  ·exact ((mi x ys).cons y).trans (List.Perm.swap x y ys)
  ·exact iY _
theorem gf:∀ (xs pd:List Ev),(og xs pd).Perm (xs++pd)
 | [],pd=>iY _
 | x :: xs,pd=>by
  show (og xs (vi x pd)).Perm _;refine (gf xs (vi x pd)).trans ?_;refine ((iY xs).append (mi x pd)).trans ?_;exact HC
theorem sy {x:Ev}:∀ {ys:List Ev},lu ys->(∀ y∈ys,x.key≠y.key)->lu (vi x ys)
 | [],_,_=>nV _ _
 | y :: ys,h,n=>by
  obtain ⟨h1,h2⟩:=gp.mp h;unfold vi
  by_cases c:HT.lexLt x.key y.key=true
  ·rw [if_pos c];refine gp.mpr ⟨fun z hz=>?_,sy h2 fun z hz=>n z (ag _ hz)⟩
   rcases au.mp ((mi x ys).mem_iff.mp hz) with e | e
   ·rw [e];exact c
   ·exact h1 z e
  ·rw [if_neg c];have lt:HT.lexLt y.key x.key=true:=HT.lx_of_not (by
    cases e:HT.lexLt x.key y.key with
    | false=>rfl
    | true=>exact absurd e c) (n y ax)
   refine gp.mpr ⟨fun z hz=>?_,h⟩
   rcases au.mp hz with e | e
   ·rw [e];exact lt
   ·exact HT.lx_trans (h1 z e) lt
theorem xa:∀ {xs ys:List Ev},lu xs->lu ys->xs.Perm ys->xs=ys
 | [],ys,_,_,p=>(List.nil_perm.mp p).symm ▸ rfl
 | x :: xs,[],_,_,p=>absurd p (by intro z; have:=z.length_eq; simp at this)
 | x :: xs,y :: ys,h,k,p=>by
  obtain ⟨h1,h2⟩:=gp.mp h;obtain ⟨k1,k2⟩:=gp.mp k;have e:x=y:=by
   rcases au.mp (p.mem_iff.mp (ax (a:=x) (l:=xs))) with z | z
   ·exact z
   ·rcases au.mp (p.mem_iff.mpr (ax (a:=y) (l:=ys))) with q | q
    ·exact q.symm
    ·have a:=k1 x z;have b:=HT.lx_asym (h1 y q);rw [a] at b
     cases b
  subst e;rw [xa h2 k2 ((List.perm_cons x).mp p)]
structure Ku (m:Int) (h:Ev) (se se':Int) (e:Ev):Prop where
 fr:e.fr=h.to
 c0:se<=e.c
 c1:e.c < se'
 t0:h.t < e.t
 t1:e.t<=10 ^ 12
 to0:0<=e.to
 to1:e.to < m
structure News (m:Int) (h:Ev) (n:Nat) (w w':Wk):Prop where
 se:w.se<=w'.se
 ex:∃ new,w'.out=w.out++new/\new.length<=n/\(∀ e∈new,Ku m h w.se w'.se e)/\new.Pairwise (fun a b=>a.c < b.c)
theorem News.none {m:Int} {h:Ev} {n:Nat} {w w':Wk} (e1:w'.se=w.se) (e2:w'.out=w.out):News m h n w w':=
 ⟨by rw [e1]; exact vH _,[],by rw [e2,cE],bT _,(fun e he=>by cases he),List.Pairwise.nil⟩
theorem News.trans {m:Int} {h:Ev} {n1 n2:Nat} {w w1 w2:Wk} (a:News m h n1 w w1) (b:News m h n2 w1 w2):News m h (n1 + n2) w w2:=by
 obtain ⟨s1,x1,e1,l1,o1,p1⟩:=a;obtain ⟨s2,x2,e2,l2,o2,p2⟩:=b;refine ⟨Int.le_trans s1 s2,x1++x2,by rw [e2,e1,jr],by rw [aA]; omega,fun e he=>?_,gG.mpr ⟨p1,p2,fun a ha b hb=>?_⟩⟩
 ·rcases cq.mp he with z | z
  ·obtain ⟨f,c0,c1,t0,t1,q0,q1⟩:=o1 e z;exact ⟨f,c0,by omega,t0,t1,q0,q1⟩
  ·obtain ⟨f,c0,c1,t0,t1,q0,q1⟩:=o2 e z;exact ⟨f,by omega,c1,t0,t1,q0,q1⟩
 ·have:=(o1 a ha).c1;have:=(o2 b hb).c0;omega
theorem News.le {m:Int} {h:Ev} {n1 n2:Nat} {w w1:Wk} (a:News m h n1 w w1) (l:n1<=n2):News m h n2 w w1:=by
 obtain ⟨s1,x1,e1,l1,o1,p1⟩:=a;exact ⟨s1,x1,e1,by omega,o1,p1⟩
theorem News.from {m:Int} {h:Ev} {n:Nat} {w0 w w':Wk} (a:News m h n w w') (e1:w.se=w0.se) (e2:w.out=w0.out):News m h n w0 w':=by
 obtain ⟨s1,x1,f1,l1,o1,p1⟩:=a;rw [e1] at s1 o1;exact ⟨s1,x1,by rw [f1,e2],l1,o1,p1⟩
theorem qB {h:Ev} {w w':Wk} {f:Fm} {k:Wk->Int->Except Flt Wk} (e:rck h w f k=.ok w'):∃ n,k {w with rk:=w.rk++[f]} n=.ok w':=by
 unfold rck at e
 split at e
 ·exact ⟨_,e⟩
 ·cases e
 ·cases e
mutual
theorem Gf {m:Int} {h:Ev} {ds:List Int}:∀ (D:Dd) (w w':Wk),D.toOk m->doD h ds D w=.ok w'->News m h D.size w w'
 | .put x f,w,w',_,e=>by
  simp only [doD] at e;obtain ⟨n,e⟩:=qB e
  cases e;exact News.none rfl rfl
 | .push q f,w,w',_,e=>by
  simp only [doD] at e;obtain ⟨n,e⟩:=qB e;try dsimp only at e
  split at e
  ·cases e
  ·cases e;exact News.none rfl rfl
 | .pull q x o,w,w',to,e=>by
  simp only [doD] at e;simp only [Dd.toOk] at to
  split at e
  ·exact ((mj o _ _ to e).le (fq _)).from rfl rfl
  ·cases e;exact News.none rfl rfl
 | .draw x f,w,w',_,e=>by
  simp only [doD] at e;obtain ⟨n,e⟩:=qB e;try dsimp only at e
  split at e
  ·cases e
  ·split at e
   ·cases e
   ·cases e;exact News.none rfl rfl
 | .send to sg sp rk a b,w,w',to',e=>by
  simp only [doD] at e;simp only [Dd.toOk] at to';obtain ⟨n,e⟩:=qB e;try dsimp only at e
  split at e
  ·cases e
  ·rename_i c
   obtain ⟨x,e⟩:=qB e;obtain ⟨y,e⟩:=qB e;try dsimp only at e
   split at e
   ·cases e
   ·rename_i c2
    cases e;refine ⟨?_,[_],rfl,aC _,fun q hq=>?_,nV _ _⟩
    ·show w.se<=w.se + 1;omega
    ·rw [aD.mp hq];exact ⟨rfl,vH _,(by show w.se < w.se + 1; omega),(by show h.t < h.t + n; omega),(by show h.t + n<=10 ^ 12; omega),to'.1,to'.2⟩
 | .ife f t e',w,w',to,e=>by
  simp only [doD] at e;simp only [Dd.toOk] at to;obtain ⟨n,e⟩:=qB e;try dsimp only at e
  simp only [Dd.size]
  split at e
  ·exact ((mj e' _ _ to.2 e).le (by omega)).from rfl rfl
  ·exact ((mj t _ _ to.1 e).le (by omega)).from rfl rfl
 | .fin,w,w',_,e=>by
  simp only [doD] at e
  cases e;exact News.none rfl rfl
theorem mj {m:Int} {h:Ev} {ds:List Int}:∀ (D:Ds) (w w':Wk),D.toOk m->doS h ds D w=.ok w'->News m h D.size w w'
 | .nil,w,w',_,e=>by
  simp only [doS] at e
  cases e;exact News.none rfl rfl
 | .cons d r,w,w',to,e=>by
  simp only [doS] at e;simp only [Ds.toOk] at to;simp only [Ds.size]
  split at e
  ·rename_i w1 e1
   exact (Gf d _ _ to.1 e1).trans (mj r _ _ to.2 e)
  ·cases e
end
structure zw (m:Nat) (e:Ev):Prop where
 to0:0<=e.to
 to1:e.to < m
 wt:Wo e.t
 wa:Wo e.a
 wb:Wo e.b
structure ROk (m:Nat) (r:RS):Prop where
 len:r.sts.length=m
 fall:lu r.pd
 ev:∀ e∈r.pd,zw m e
 cn:∀ e∈r.pd,e.fr=-1\/∃ (i:Nat) (s:Sta),e.fr=(i:Int)/\r.sts[i]?=some s/\e.c < s.se
theorem sC {pd:List Ev} {h:Ev} (f:lu (pd++[h])):lu pd/\∀ e∈pd,HT.lexLt h.key e.key=true:=by
 obtain ⟨f1,_,f3⟩:=gG.mp f;exact ⟨f1,fun e he=>f3 e he h (aD.mpr rfl)⟩
theorem vj {pd:List Ev} {h:Ev} (e:pd.getLast?=some h):pd=pd.dropLast++[h]:=by
 obtain ⟨ys,rfl⟩:=List.getLast?_eq_some_iff.mp e;rw [BH]
theorem vk {a b:Ev} (h:a.fr≠b.fr\/a.c≠b.c):a.key≠b.key:=fun z=>by
 unfold Ev.key at z;simp only [List.cons.injEq] at z
 rcases h with h | h
 ·exact h z.2.2.1
 ·exact h z.2.2.2.1
theorem pT:∀ {xs pd:List Ev},lu pd->(∀ x∈xs,∀ y∈pd,x.key≠y.key)->xs.Pairwise (fun a b=>a.key≠b.key)->lu (og xs pd)
 | [],_,h,_,_=>h
 | x :: xs,pd,h,n,p=>by
  obtain ⟨p1,p2⟩:=gp.mp p;refine pT (xs:=xs) (sy h fun y hy=>n x ax y hy) (fun z hz y hy=>?_) p2
  rcases au.mp ((mi x pd).mem_iff.mp hy) with e | e
  ·rw [e];exact fun q=>p1 z hz q.symm
  ·exact n z (ag _ hz) y e
structure Did (Ms:List MD) (r:RS) (h:Ev) (M:MD) (s:Sta):Prop where
 pd:r.pd=r.pd.dropLast++[h]
 hM:Ms[h.to.toNat]?=some M
 hs:r.sts[h.to.toNat]?=some s
theorem qZ {Ms:List MD} {r:RS} {h:Ev} {M:MD} {s:Sta} (d:Did Ms r h M s) {e:Flt} (q:doS h M.ds (jh M.hs h.sg) s.w=.error e):gA Ms r=({r with pd:=r.pd.dropLast,sp:=some (.flt e h)},[]):=by
 have l:r.pd.getLast?=some h:=by
  rw [d.pd,BI]
 unfold gA;rw [l];dsimp only;rw [d.hM,d.hs];dsimp only;rw [q]
theorem um {Ms:List MD} {r:RS} {h:Ev} {M:MD} {s:Sta} (d:Did Ms r h M s) {w:Wk} (q:doS h M.ds (jh M.hs h.sg) s.w=.ok w):gA Ms r=(⟨r.sts.set h.to.toNat ⟨w.bx,w.qu,w.dr,w.se⟩,og w.out r.pd.dropLast,some h,if w.en=true then some (.fin h) else none⟩,[⟨h,wrB M.bs w,wrQ M.qs w,w.out⟩]):=by
 have l:r.pd.getLast?=some h:=by
  rw [d.pd,BI]
 unfold gA;rw [l];dsimp only;rw [d.hM,d.hs];dsimp only;rw [q]
theorem zx {m:Nat} {Ms:List MD} {r:RS} {h:Ev} {M:MD} {s:Sta} (k:ROk m r) (d:Did Ms r h M s) {n:Nat} {w:Wk} (N:News m h n s.w w):(∀ x∈w.out,∀ y∈r.pd.dropLast,x.key≠y.key)/\w.out.Pairwise (fun a b=>a.key≠b.key)/\(∀ x∈w.out,Ku m h s.se w.se x):=by
 obtain ⟨s1,new,e,ln,ho,hp⟩:=N;have e:w.out=new:=e;rw [e];have hin:h∈r.pd:=by
  rw [d.pd];exact bD _ (aD.mpr rfl)
 have h0:=(k.ev h hin).to0;refine ⟨fun x hx y hy=>?_,hp.imp fun z=>vk (.inr (by omega)),ho⟩;have o:=ho x hx;have yin:y∈r.pd:=iD _ hy
 rcases k.cn y yin with z | ⟨i,s',z1,z2,z3⟩
 ·refine vk (.inl ?_);rw [o.fr,z];omega
 ·by_cases c:y.fr=h.to
  ·refine vk (.inr ?_);have ei:h.to.toNat=i:=by omega
   have:=d.hs;rw [ei,z2] at this
   cases this;have c0:s.se<=x.c:=o.c0;omega
  ·refine vk (.inl ?_);rw [o.fr];exact fun q=>c q.symm
theorem Gh {m:Nat} {Ms:List MD} {r:RS} {h:Ev} {M:MD} {s:Sta} (k:ROk m r) (d:Did Ms r h M s) {n:Nat} {w:Wk} (q:doS h M.ds (jh M.hs h.sg) s.w=.ok w) (N:News m h n s.w w) (wo:∀ e∈w.out,Wo e.a/\Wo e.b):ROk m (gA Ms r).1:=by
 rw [um d q];obtain ⟨n1,n2,n3⟩:=zx k d N;have f:=k.fall;rw [d.pd] at f;obtain ⟨f1,f2⟩:=sC f;refine ⟨by rw [HZ]; exact k.len,pT f1 n1 n2,fun e he=>?_,fun e he=>?_⟩
 ·rcases cq.mp ((gf _ _).mem_iff.mp he) with z | z
  ·obtain ⟨a,b,c,d',e',f',g'⟩:=n3 e z;have hin:h∈r.pd:=by
    rw [d.pd];exact bD _ (aD.mpr rfl)
   have ht:=(k.ev h hin).wt;have w1:(10:Int) ^ 15=1000000000000000:=by decide
   have w2:(10:Int) ^ 12=1000000000000:=by decide
   refine ⟨f',g',?_,(wo e z).1,(wo e z).2⟩;unfold Wo at ht |-;omega
  ·exact k.ev e (iD _ z)
 ·have lt:h.to.toNat < r.sts.length:=(aE.mp d.hs).1;have hin:h∈r.pd:=by
   rw [d.pd];exact bD _ (aD.mpr rfl)
  have h0:=(k.ev h hin).to0
  rcases cq.mp ((gf _ _).mem_iff.mp he) with z | z
  ·obtain ⟨a,b,c,_⟩:=n3 e z;refine .inr ⟨h.to.toNat,_,by omega,eZ lt,c⟩
  ·rcases k.cn e (iD _ z) with y | ⟨i,s',z1,z2,z3⟩
   ·exact .inl y
   ·by_cases c:h.to.toNat=i
    ·subst c;have es:s=s':=dH (d.hs.symm.trans z2);rw [<- es] at z3;refine .inr ⟨_,_,z1,eZ lt,?_⟩;have s1:s.se<=w.se:=N.se;show e.c < w.se;omega
    ·exact .inr ⟨i,s',z1,by rw [iB c]; exact z2,z3⟩
theorem Dj {m:Nat} {Ms:List MD} {r:RS} {h:Ev} {M:MD} {s:Sta} (k:ROk m r) (d:Did Ms r h M s) {e:Flt} (q:doS h M.ds (jh M.hs h.sg) s.w=.error e):ROk m (gA Ms r).1:=by
 rw [qZ d q];have f:=k.fall;rw [d.pd] at f;exact ⟨k.len,(sC f).1,fun e he=>k.ev e (iD _ he),fun e he=>k.cn e (iD _ he)⟩
structure Ex where
 l:List aa
 b:Hp
def Ex.In (ex:Ex) (a:aa):Prop:=a∈ex.l\/∃ o,ex.b a=some o/\∀ xs,o≠.tup xs
instance:Membership Addr Ex:=⟨fun ex a=>ex.In a⟩
def Ex.add (ex:Ex) (a:aa):Ex:=⟨a :: ex.l,ex.b⟩
theorem Ex.here {ex:Ex} {a:aa}:a∈ex.add a:=.inl ax
theorem Ex.more {ex:Ex} {a b:aa} (h:b∈ex):b∈ex.add a:=h.elim (fun z=>.inl (ag _ z)) .inr
theorem Ex.or {ex:Ex} {a b:aa} (h:b∈ex.add a):b=a\/b∈ex:=h.elim (fun z=>(au.mp z).elim .inl fun y=>.inr (.inl y)) fun z=>.inr (.inr z)
open Classical in
noncomputable def Hid (ex:Ex) (G:Hp):Hp:=fun a=>if a∈ex then none else G a
section
variable {ex:Ex} {G G':Hp} {a:aa} {o:HO}
theorem gR (e:Hid ex G a=some o):a∉ex:=fun m=>by
 unfold Hid at e;rw [if_pos m] at e
 cases e
theorem eG (n:a∉ex):Hid ex G a=G a:=if_neg n
theorem eA:bf (Hid ex G) G:=fun b o e=>by
 rw [eG (gR e)] at e;exact e
theorem hU (m:a∈ex):Hid ex (upd G a o)=Hid ex G:=by
 funext b
 unfold Hid
 by_cases c:b∈ex
 ·rw [if_pos c,if_pos c]
 ·rw [if_neg c,if_neg c,aH fun z=>c (by rw [z]; exact m)]
theorem gB (s:bf G G'):bf (Hid ex G) (Hid ex G'):=fun b o e=>by
 rw [eG (gR e)];exact s _ _ (eA _ _ e)
theorem Mh (s:∀ b o,G b=some o->b∉ex->G' b=some o):bf (Hid ex G) (Hid ex G'):=fun b o e=>by
 rw [eG (gR e)];exact s _ _ (eA _ _ e) (gR e)
theorem fX {xs:List V} (nt:∀ a∈ex,∃ o,G a=some o/\∀ xs,o≠.tup xs) (h:G a=some (.tup xs)):Hid ex G a=some (.tup xs):=by
 rw [eG fun m=>by
  obtain ⟨o,e,n⟩:=nt a m;rw [e] at h
  cases h;exact n _ rfl]
 exact h
theorem pj (n:G a=none):Hid (ex.add a) (upd G a o)=Hid ex G:=by
 funext b
 unfold Hid
 by_cases c:b=a
 ·rw [c,if_pos Ex.here]
  by_cases d:a∈ex
  ·rw [if_pos d]
  ·rw [if_neg d,n]
 ·by_cases d:b∈ex
  ·rw [if_pos d,if_pos (Ex.more d)]
  ·rw [if_neg d,if_neg (fun z=>(Ex.or z).elim c d),aH c]
theorem zy:bf (Hid (ex.add a) G) (Hid ex G):=fun b o e=>by
 rw [eG fun m=>gR e (Ex.more m)];exact eA _ _ e
end
abbrev AQ (h:Ev):HO:=.tup [.int h.t,.int h.r,.int h.fr,.int h.c]
def RcIn (F:Hp) (v:V) (q:Rec):Prop:=∃ (rc k wl od:aa) (ws1 ws2 vs:List V) (qa:List (Str×aa)),v=.ref rc/\F rc=some (.tup [.ref k,.int q.h.to,.str q.h.sg,.int q.h.a,.int q.h.b,.ref wl,.ref od])/\F k=some (AQ q.h) /\
 F wl=some (.lst (ws1++ws2))/\aP (yc F) ws1 q.wb/\aP (zu F) ws2 qa/\gc F qa q.wq/\F od=some (.lst vs)/\aP (gQ F) vs q.out
theorem RcIn.same {F F':Hp} (s:bf F F') {v:V} {q:Rec} (h:RcIn F v q):RcIn F' v q:=by
 obtain ⟨rc,k,wl,od,ws1,ws2,vs,qa,e,h1,h2,h3,h4,h5,h6,h7,h8⟩:=h;exact ⟨rc,k,wl,od,ws1,ws2,vs,qa,e,s _ _ h1,s _ _ h2,s _ _ h3,Paired.mono (fun _ _ z=>z.keep fun a xs e=>s _ _ e) h4,Paired.mono (fun _ _ z=>z.keep fun a xs e=>s _ _ e) h5,h6.same s,s _ _ h7,Paired.mono (fun _ _ z=>z.same s) h8⟩
def qh:Flt->Str
 | .nought=>"nought"
 | .great=>"great"
 | .full=>"full"
 | .dry=>"dry"
 | .span=>"span"
 | .late=>"late"
def yf (F:Hp) (v:V):Option Ev->Prop
 | none=>v=.non
 | some h=>∃ k,v=.ref k/\F k=some (AQ h)
def vm (F:Hp) (v:V):Stp->Prop
 | .fin h=>∃ t k,v=.ref t/\F t=some (.tup [.str "end",.ref k])/\F k=some (AQ h)
 | .flt e h=>∃ t k,v=.ref t/\F t=some (.tup [.str "fault",.str (qh e),.ref k])/\F k=some (AQ h)
def yg (F:Hp) (v:V):Option Stp->Prop
 | none=>v=.non
 | some s=>vm F v s
def pz (F:Hp) (v:V):End->Prop
 | .empty=>∃ t,v=.ref t/\F t=some (.tup [.str "empty"])
 | .cut=>∃ t,v=.ref t/\F t=some (.tup [.str "cut"])
 | .stp s=>vm F v s
theorem yf.same {F F':Hp} (s:bf F F') {v:V}:∀ {q:Option Ev},yf F v q->yf F' v q
 | none,h=>h
 | some _,⟨k,e,h⟩=>⟨k,e,s _ _ h⟩
theorem vm.same {F F':Hp} (s:bf F F') {v:V}:∀ {q:Stp},vm F v q->vm F' v q
 | .fin _,⟨t,k,e,h1,h2⟩=>⟨t,k,e,s _ _ h1,s _ _ h2⟩
 | .flt _ _,⟨t,k,e,h1,h2⟩=>⟨t,k,e,s _ _ h1,s _ _ h2⟩
theorem yg.same {F F':Hp} (s:bf F F') {v:V}:∀ {q:Option Stp},yg F v q->yg F' v q
 | none,h=>h
 | some _,h=>vm.same s h
theorem pz.same {F F':Hp} (s:bf F F') {v:V}:∀ {q:End},pz F v q->pz F' v q
 | .empty,⟨t,e,h⟩=>⟨t,e,s _ _ h⟩
 | .cut,⟨t,e,h⟩=>⟨t,e,s _ _ h⟩
 | .stp _,h=>vm.same s h
def gW (m s p r e:V):List (Str×V):=[("model",m),("states",s),("pending",p),("reached",r),("stopped",e)]
structure CoT (K:af) (mg:Str->Option ae) (CC:aa):Prop where
 cl:Cls K CC
 nM:d8 K CC "model"
 nS:d8 K CC "states"
 nP:d8 K CC "pending"
 nR:d8 K CC "reached"
 nE:d8 K CC "stopped"
 m:mg "Course"=some (.ref CC)
theorem co_m (m s p r e:V):(gW m s p r e).lookup ("model":Str)=some m:=rfl
theorem Gi (m s p r e:V):(gW m s p r e).lookup ("states":Str)=some s:=rfl
theorem Jc (m s p r e:V):(gW m s p r e).lookup ("pending":Str)=some p:=rfl
theorem co_r (m s p r e:V):(gW m s p r e).lookup ("reached":Str)=some r:=rfl
theorem Jd (m s p r e:V):(gW m s p r e).lookup ("stopped":Str)=some e:=rfl
theorem vn (m s p r e:V):(gW m s p r e).length < 1000:=by show 5 < 1000; decide
theorem Mj (m s p r e:V):cD "stopped" e (cD "reached" r (cD "pending" p (cD "states" s (cD "model" m []))))=gW m s p r e:=rfl
theorem BJ (m s p r e r':V):cD "reached" r' (gW m s p r e)=gW m s p r' e:=rfl
theorem yh (m s p r e e':V):cD "stopped" e' (gW m s p r e)=gW m s p r e':=rfl
theorem vp (m s p r e:V) {x:Str} (hx:(["model","states","pending","reached","stopped"]:List Str).contains x=false):(gW m s p r e).lookup x=none:=by
 have z:∀ k∈(["model","states","pending","reached","stopped"]:List Str),(x == k)=false:=fun k hk=>beq_eq_false_iff_ne.mpr fun e=>by
  rw [e,jQ.mpr hk] at hx
  cases hx
 unfold gW;rw [dB (z _ (by simp)),dB (z _ (by simp)),dB (z _ (by simp)),dB (z _ (by simp)),dB (z _ (by simp))];rfl
def tR (CM:aa) (Ms:List MD) (H:Hp) (m:aa):Prop:=∃ (dx ml:aa) (fs:List (Str×V)),H m=some (.ins CM dx fs)/\fs.lookup ("machines":Str)=some (.ref ml)/\ye (Ms.length:Int) H ml Ms
theorem tR.same {CM:aa} {Ms:List MD} {H H':Hp} (s:bf H H') {m:aa} (h:tR CM Ms H m):tR CM Ms H' m:=by
 obtain ⟨dx,ml,fs,h1,h2,h3⟩:=h;exact ⟨dx,ml,fs,s _ _ h1,h2,h3.same s⟩
abbrev StA (CS:aa) (F:Hp):aa->Sta->Prop:=fun a s=>jq CS F a s.bx s.qu s.dr s.se
structure iA (CC CS:aa) (Ms:List MD) (Hb:Hp) (ex:Ex) (G:Hp) (co m sl pl:aa) (r:RS):Prop where
 ok:ROk Ms.length r
 sm:∀ b o,Hb b=some o->b≠co/\b≠sl/\b≠pl/\G b=some o
 i1:co∈ex
 i2:sl∈ex
 i3:pl∈ex
 n1:co≠sl
 n2:co≠pl
 n3:sl≠pl
 hc:∃ dx rv sv,G co=some (.ins CC dx (gW (.ref m) (.ref sl) (.ref pl) rv sv))/\yf (Hid ex G) rv r.re/\yg (Hid ex G) sv r.sp
 hs:∃ ss:List aa,G sl=some (.lst (ss.map V.ref))/\aP (StA CS (Hid ex G)) ss r.sts
 hp:∃ ps,G pl=some (.lst ps)/\aP (gQ (Hid ex G)) ps r.pd
 wk:∀ (i:Nat) (M:MD) (s:Sta),Ms[i]?=some M->r.sts[i]?=some s->o8 M.bs M.qs s.w
 nt:∀ a∈ex,∃ o,G a=some o/\∀ xs,o≠.tup xs
theorem jq.same' {CS:aa} {H H':Hp} (s:bf H H') {st:aa} {bx:List (Str×Int)} {qu:List (Str×List Int)} {dr:Nat} {se:Int} (h:jq CS H st bx qu dr se):jq CS H' st bx qu dr se:=by
 obtain ⟨dx,bd,qd,qa,h1,h2,h3,h4⟩:=h;exact ⟨dx,bd,qd,qa,s _ _ h1,s _ _ h2,s _ _ h3,h4.same s⟩
section
variable {CC CS:aa} {Ms:List MD} {Hb G G':Hp} {ex:Ex} {co m sl pl:aa} {r:RS}
theorem iA.same (c:iA CC CS Ms Hb ex G co m sl pl r) (s:bf G G'):iA CC CS Ms Hb ex G' co m sl pl r:=by
 obtain ⟨dx,rv,sv,h1,h2,h3⟩:=c.hc;obtain ⟨ss,h4,h5⟩:=c.hs;obtain ⟨ps,h6,h7⟩:=c.hp;have f:=gB (ex:=ex) s;exact ⟨c.ok,fun b o e=>(c.sm b o e).imp id (xb id (xb id (s _ _))),c.i1,c.i2,c.i3,c.n1,c.n2,c.n3,⟨dx,rv,sv,s _ _ h1,h2.same f,h3.same f⟩,⟨ss,s _ _ h4,Paired.mono (fun _ _ z=>jq.same' f z) h5⟩,⟨ps,s _ _ h6,Paired.mono (fun _ _ z=>z.same f) h7⟩,c.wk,fun a ha=>by
  obtain ⟨o,e,n⟩:=c.nt a ha;exact ⟨o,s _ _ e,n⟩⟩
theorem iA.more (c:iA CC CS Ms Hb ex G co m sl pl r) {a:aa} {o:HO} (n:G a=none) (no:∀ xs,o≠.tup xs):iA CC CS Ms Hb (ex.add a) (upd G a o) co m sl pl r:=by
 obtain ⟨dx,rv,sv,h1,h2,h3⟩:=c.hc;obtain ⟨ss,h4,h5⟩:=c.hs;obtain ⟨ps,h6,h7⟩:=c.hp;refine ⟨c.ok,?_,Ex.more c.i1,Ex.more c.i2,Ex.more c.i3,c.n1,c.n2,c.n3,⟨dx,rv,sv,aR h1 (av h1 n),?_,?_⟩,⟨ss,aR h4 (av h4 n),?_⟩,⟨ps,aR h6 (av h6 n),?_⟩,c.wk,fun b hb=>?_⟩
 ·exact fun b o e=>(c.sm b o e).imp id (xb id (xb id fun z=>aR z (av z n)))
 ·rw [pj n];exact h2
 ·rw [pj n];exact h3
 ·rw [pj n];exact h5
 ·rw [pj n];exact h7
 ·rcases Ex.or hb with z | z
  ·rw [z];exact ⟨o,ah,no⟩
  ·obtain ⟨o',e,n'⟩:=c.nt b z;exact ⟨o',aR e (av e n),n'⟩
theorem iA.less {a:aa} (c:iA CC CS Ms Hb (ex.add a) G co m sl pl r) (a1:co≠a) (a2:sl≠a) (a3:pl≠a):iA CC CS Ms Hb ex G co m sl pl r:=by
 obtain ⟨dx,rv,sv,h1,h2,h3⟩:=c.hc;obtain ⟨ss,h4,h5⟩:=c.hs;obtain ⟨ps,h6,h7⟩:=c.hp;have f:bf (Hid (ex.add a) G) (Hid ex G):=zy;have out:∀ {b:aa},b∈ex.add a->b≠a->b∈ex:=fun m n=>(Ex.or m).elim (fun z=>absurd z n) id;exact ⟨c.ok,c.sm,out c.i1 a1,out c.i2 a2,out c.i3 a3,c.n1,c.n2,c.n3,⟨dx,rv,sv,h1,h2.same f,h3.same f⟩,⟨ss,h4,Paired.mono (fun _ _ z=>jq.same' f z) h5⟩,⟨ps,h6,Paired.mono (fun _ _ z=>z.same f) h7⟩,c.wk,fun b hb=>c.nt b (Ex.more hb)⟩
theorem iA.upd (c:iA CC CS Ms Hb ex G co m sl pl r) {a:aa} {o:HO} (ha:a∈ex) (ab:Hb a=none) (a1:co≠a) (a2:sl≠a) (a3:pl≠a) (no:∀ xs,o≠.tup xs):iA CC CS Ms Hb ex (L2.upd G a o) co m sl pl r:=by
 obtain ⟨dx,rv,sv,h1,h2,h3⟩:=c.hc;obtain ⟨ss,h4,h5⟩:=c.hs;obtain ⟨ps,h6,h7⟩:=c.hp;refine ⟨c.ok,?_,c.i1,c.i2,c.i3,c.n1,c.n2,c.n3,⟨dx,rv,sv,aR h1 a1,?_,?_⟩,⟨ss,aR h4 a2,?_⟩,⟨ps,aR h6 a3,?_⟩,c.wk,fun b hb=>?_⟩
 ·exact fun b o e=>(c.sm b o e).imp id (xb id (xb id fun z=>aR z (av e ab)))
 ·rw [hU ha];exact h2
 ·rw [hU ha];exact h3
 ·rw [hU ha];exact h5
 ·rw [hU ha];exact h7
 ·by_cases z:b=a
  ·rw [z];exact ⟨o,ah,no⟩
  ·obtain ⟨o',e,n'⟩:=c.nt b hb;exact ⟨o',aR e z,n'⟩
end
theorem Paired.snoc_inv {α β:Type} {R:α->β->Prop}:∀ {ys:List β} {xs:List α} {y:β},aP R xs (ys++[y])->∃ xs' x,xs=xs'++[x]/\aP R xs' ys/\R x y
 | [],xs,y,p=>by
  cases p with
  | cons a b =>
   cases b;exact ⟨[],_,rfl,.nil,a⟩
 | z :: ys,xs,y,p=>by
  cases p with
  | cons a b =>
   obtain ⟨xs',x,e,p',r⟩:=Paired.snoc_inv (ys:=ys) b;exact ⟨_ :: xs',x,by rw [e]; rfl,.cons a p',r⟩
theorem jw {α β:Type} {R:α->β->Prop}:∀ {xs:List α} {ys:List β} {i:Nat} {y:β},aP R xs ys->ys[i]?=some y->∃ x,xs[i]?=some x/\R x y
 | _,_,i,y,.nil,h=>by simp at h
 | _,_,0,y,.cons a b,h=>by
  simp at h;subst h;exact ⟨_,rfl,a⟩
 | _,_,i + 1,y,.cons a b,h=>by
  obtain ⟨x,h1,h2⟩:=jw (i:=i) (y:=y) b (by simpa using h);exact ⟨x,by simpa using h1,h2⟩
theorem Paired.set {α β:Type} {R:α->β->Prop}:∀ {xs:List α} {ys:List β},aP R xs ys->∀ (i:Nat) {x:α} {y:β},R x y->aP R (xs.set i x) (ys.set i y)
 | _,_,.nil,i,x,y,h=>.nil
 | _,_,.cons a b,0,x,y,h=>.cons h b
 | _,_,.cons a b,i + 1,x,y,h=>.cons a (Paired.set b i h)
theorem Dk {α β:Type} {f:α->β} {xs ys:List β} (p:xs.Perm ys):∀ us:List α,us.map f=ys->∃ us':List α,us'.Perm us/\us'.map f=xs:=by
 induction p with
 | nil =>
  intro us e;have:us=[]:=List.map_eq_nil_iff.mp e;subst this;exact ⟨[],iY _,rfl⟩
 | cons x _ ih =>
  intro us e
  cases us with
  | nil=>cases e
  | cons u us =>
   rw [bQ] at e;obtain ⟨e1,e2⟩:=vt e;obtain ⟨us',p',m'⟩:=ih us e2;exact ⟨u :: us',p'.cons u,by rw [bQ,m',e1]⟩
 | swap x y l =>
  intro us e
  match us,e with
  | a :: b :: r,e =>
   rw [bQ,bQ] at e;obtain ⟨e1,e⟩:=vt e;obtain ⟨e2,e3⟩:=vt e;exact ⟨b :: a :: r,List.Perm.swap _ _ _,by rw [bQ,bQ,e1,e2,e3]⟩
 | trans _ _ ih1 ih2 =>
  intro us e;obtain ⟨u1,p1,m1⟩:=ih2 us e;obtain ⟨u2,p2,m2⟩:=ih1 u1 m1;exact ⟨u2,p2.trans p1,m2⟩
theorem tF {α β:Type} {R:α->β->Prop}:∀ {us:List (α×β)},(∀ u∈us,R u.1 u.2)->aP R (us.map (·.1)) (us.map (·.2))
 | [],_=>.nil
 | u :: us,h=>.cons (h u ax) (tF fun v hv=>h v (ag _ hv))
theorem vv {α β:Type} {R:α->β->Prop} {xs:List α} {ys:List β} (p:aP R xs ys):(xs.zip ys).map (·.1)=xs/\(xs.zip ys).map (·.2)=ys/\∀ u∈xs.zip ys,R u.1 u.2:=by
 induction p with
 | nil=>exact ⟨rfl,rfl,fun u hu=>by cases hu⟩
 | cons a _ ih =>
  obtain ⟨h1,h2,h3⟩:=ih;refine ⟨by rw [gm,bQ,h1],by rw [gm,bQ,h2],fun u hu=>?_⟩;rw [gm] at hu
  rcases au.mp hu with z | z
  ·rw [z];exact a
  ·exact h3 u z
theorem AR {G:Hp} {v:V} {e:Ev} (h:gQ G v e):AB G (v,e.key):=by
 obtain ⟨t,k,e1,h1,h2⟩:=h;exact ⟨t,k,_,e1,h1,h2⟩
theorem xc {F:Hp} {us:List (V×Ev)} {es:List Ev} {zs:List (V×List Int)} (hu:∀ u∈us,gQ F u.1 u.2) (p:zs.Perm (us.map fun u=>(u.1,u.2.key))) (f:pf zs) (q:(us.map (·.2)).Perm es) (fe:lu es):∃ ps,zs.map (·.1)=ps/\aP (gQ F) ps es:=by
 obtain ⟨us',p',m'⟩:=Dk p us rfl;have h:=tF (R:=gQ F) (us:=us') fun u hu'=>hu u (p'.mem_iff.mp hu');have fe':lu (us'.map (·.2)):=by
  rw [<- m'] at f;have f2:=ju.mp f;exact ju.mpr f2
 rw [xa fe' fe ((p'.map _).trans q)] at h;refine ⟨us'.map (·.1),?_,h⟩;rw [<- m',dS];rfl
theorem Je {F G:Hp} (s:bf F G) {pl:aa} {v:V} {ps:List V} {pd:List Ev} {e:Ev} {Q:VK} {E:XK} (hp:G pl=some (.lst ps)) (pr:aP (gQ F) ps pd) (fe:lu pd) (hv:gQ F v e) (nw:∀ y∈pd,e.key≠y.key) (len:pd.length<=10000000)
  (k:∀ ps',aP (gQ F) ps' (vi e pd)->Q .non (upd G pl (.lst ps'))):BG [.ref pl,v] G Q E:=by
 obtain ⟨z1,z2,z3⟩:=vv pr;have ln:=aZ pr;obtain ⟨t,kk,rfl,h1,h2⟩:=id hv;refine ⟨pl,t,(ps.zip pd).map fun u=>(u.1,u.2.key),e.key,rfl,?_,fun z hz=>?_,?_,(AR hv).imp fun a ⟨k,ra,e1,e2,e3⟩=>⟨k,ra,e1,s _ _ e2,s _ _ e3⟩,?_,?_,fun zs' p f=>?_⟩
 ·rw [dS];have:((fun x:V×List Int=>x.1) ∘ fun u:V×Ev=>(u.1,u.2.key))=(fun u:V×Ev=>u.1):=rfl;rw [this,z1];exact hp
 ·obtain ⟨u,hu,rfl⟩:=cC.mp hz;obtain ⟨a,k,ra,e1,e2,e3⟩:=AR (z3 u hu);exact ⟨a,k,ra,e1,s _ _ e2,s _ _ e3⟩
 ·refine ju.mpr ?_;have f2:=fe;rw [<- z2] at f2;exact ju.mp f2
 ·intro m;obtain ⟨x,hx,ex⟩:=cC.mp m;obtain ⟨u,hu,rfl⟩:=cC.mp hx;refine nw u.2 ?_ ex.symm;rw [<- z2];exact iR hu
 ·rw [ar,o6];omega
 ·have hA:∀ u∈(V.ref t,e) :: ps.zip pd,gQ F u.1 u.2:=fun u hu=>by
   rcases au.mp hu with z | z
   ·rw [z];exact hv
   ·exact z3 u z
  have hB:(((V.ref t,e) :: ps.zip pd).map (·.2)).Perm (vi e pd):=by
   rw [bQ,z2];exact (mi e pd).symm
  obtain ⟨ps',e',pr'⟩:=xc hA p f hB (sy fe nw);rw [e'];exact k ps' pr'
section
variable {P:aJ} {w:bJ} {K:af} {mg:Str->Option ae} {base:cu} {f:aa} {fd:bR}
theorem Gj:bK ["self"] ["self"] (aL mY):={}
theorem sI (F:Fun K "word" "Great.word" mY f fd):oW P w K mg base CX0 1 f fd ["self"] (pe "great"):=by
 refine F.okH Gj (fun vs H Q E h=>?_) (fun cdv A outer s H vs Q E h=>?_)
 ·obtain ⟨a,rfl,_⟩:=h;rfl
 obtain ⟨a,rfl,q⟩:=h;exact ⟨_,ay (bM bX),q⟩
theorem Jf:bK ["self"] ["self"] (aL oX):={}
theorem vw (F:Fun K "word" "Full.word" oX f fd):oW P w K mg base CX0 1 f fd ["self"] (pe "full"):=by
 refine F.okH Jf (fun vs H Q E h=>?_) (fun cdv A outer s H vs Q E h=>?_)
 ·obtain ⟨a,rfl,_⟩:=h;rfl
 obtain ⟨a,rfl,q⟩:=h;exact ⟨_,ay (bM bX),q⟩
theorem Ml:bK ["self"] ["self"] (aL qy):={}
theorem yi (F:Fun K "word" "Dry.word" qy f fd):oW P w K mg base CX0 1 f fd ["self"] (pe "dry"):=by
 refine F.okH Ml (fun vs H Q E h=>?_) (fun cdv A outer s H vs Q E h=>?_)
 ·obtain ⟨a,rfl,_⟩:=h;rfl
 obtain ⟨a,rfl,q⟩:=h;exact ⟨_,ay (bM bX),q⟩
theorem Jg:bK ["self"] ["self"] (aL oY):={}
theorem vx (F:Fun K "word" "Span.word" oY f fd):oW P w K mg base CX0 1 f fd ["self"] (pe "span"):=by
 refine F.okH Jg (fun vs H Q E h=>?_) (fun cdv A outer s H vs Q E h=>?_)
 ·obtain ⟨a,rfl,_⟩:=h;rfl
 obtain ⟨a,rfl,q⟩:=h;exact ⟨_,ay (bM bX),q⟩
theorem Jh:bK ["self"] ["self"] (aL oZ):={}
theorem vy (F:Fun K "word" "Late.word" oZ f fd):oW P w K mg base CX0 1 f fd ["self"] (pe "late"):=by
 refine F.okH Jh (fun vs H Q E h=>?_) (fun cdv A outer s H vs Q E h=>?_)
 ·obtain ⟨a,rfl,_⟩:=h;rfl
 obtain ⟨a,rfl,q⟩:=h;exact ⟨_,ay (bM bX),q⟩
end
def tG {α:Type} (a b c d e f:α):Flt->α
 | .nought=>a
 | .great=>b
 | .full=>c
 | .dry=>d
 | .span=>e
 | .late=>f
theorem gc.hid {ex:Ex} {G:Hp} {qa:List (Str×aa)} {qu:List (Str×List Int)} (n:∀ a∈qa.map (·.2),a∉ex) (q:gc G qa qu):gc (Hid ex G) qa qu:=
 gc.keep (L:=⟨0,0,0,0,0,0,0,0,0,0,.non,.non,qa⟩) (fun a u e m=>by rw [eG (n a m)]; exact e) (fun _ h=>h) q
theorem gQ.hid {ex:Ex} {G:Hp} (nt:∀ a∈ex,∃ o,G a=some o/\∀ xs,o≠.tup xs) {v:V} {e:Ev} (h:gQ G v e):gQ (Hid ex G) v e:=by
 obtain ⟨t,k,e1,h1,h2⟩:=h;exact ⟨t,k,e1,fX nt h1,fX nt h2⟩
theorem Dg.sta {CD CS:aa} {bs qs:List Str} {H0 G:Hp} {L:Lay} {h:Ev} {ds:List Int} {w:Wk} (g:Dg CD CS bs qs H0 G L h ds w) {ex:Ex} (n:∀ a∈L.all,a∉ex):jq CS (Hid ex G) L.st w.bx w.qu w.dr w.se:=
 ⟨L.dxs,L.bd,L.qd,L.qa,by rw [eG (n _ Kg)]; exact g.hst,by rw [eG (n _ Kh)]; exact g.hb,by rw [eG (n _ in_qd)]; exact g.hq,g.hl.hid fun a m=>n a (in_l m)⟩
theorem FV.told {CD CS:aa} {bs qs:List Str} {H G:Hp} {L:Lay} {h:Ev} {ds:List Int} {w:Wk} {t rc wl:aa} {ws1 ws2:List V} {qa:List (Str×aa)} (d:FV CD CS bs qs H G L h ds w t rc wl ws1 ws2 qa) {ex:Ex} (nt:∀ a∈ex,∃ o,H a=some o/\∀ xs,o≠.tup xs) :
  ∃ vs,G L.od=some (.lst vs)/\L.od∉ex/\aP (gQ (Hid ex G)) vs w.out/\RcIn (Hid ex G) (.ref rc) ⟨h,wrB bs w,wrQ qs w,w.out⟩:=by
 have ntG:∀ a∈ex,∃ o,G a=some o/\∀ xs,o≠.tup xs:=fun a ha=>by
  obtain ⟨o,e,n⟩:=nt a ha;exact ⟨o,d.sm _ _ e,n⟩
 have nx:∀ {a},H a=none->a∉ex:=fun {a} z m=>by
  obtain ⟨o,e,_⟩:=nt a m;rw [z] at e
  cases e
 obtain ⟨H0,s0,g⟩:=d.dg;obtain ⟨vs,o1,o2⟩:=g.ho;obtain ⟨k,h1,h2⟩:=d.hrc;have nod:L.od∉ex:=nx (none_of s0 (g.fr _ Ki));have pv':=Paired.mono (fun _ _ z=>gQ.hid ntG z) o2;refine ⟨vs,o1,nod,pv',rc,k,wl,L.od,ws1,ws2,vs,qa,rfl,fX ntG h1,fX ntG (d.sm _ _ h2),?_,Paired.mono (fun _ _ z=>z.keep fun a xs e=>fX ntG e) d.wr.b,Paired.mono (fun _ _ z=>z.keep fun a xs e=>fX ntG e) d.wr.q,d.wr.l.hid fun a m=>nx (d.wr.fr a (ag _ m)),?_,pv'⟩
 ·rw [eG (nx (d.wr.fr _ ax))];exact d.wr.hl
 ·rw [eG nod];exact o1
theorem o8.clean {bs qs:List Str} {w:Wk} (k:o8 bs qs w):o8 bs qs (w0 w.bx w.qu w.dr w.se):=
 ⟨k.kb,k.kq,k.nb,k.nq,k.wb,k.wq,iC,(fun x hx=>by cases hx),iC,(fun x hx=>by cases hx),(fun x hx=>by cases hx),k.fw⟩
theorem BK {P:Ds->Prop} {hs:List (Str×Ds)} (h:∀ q∈hs,P q.2) (n:P .nil) (sg:Str):P (jh hs sg):=by
 unfold jh
 cases e:hs.lookup sg with
 | none=>exact n
 | some d=>exact h _ (o9 e)
def ToldR (F:Hp) (v:V):List Rec->Prop
 | []=>v=.non
 | q :: _=>RcIn F v q
def Oth (ex:Ex) (co sl pl:aa) (H G:Hp):Prop:=∀ a,a≠co->a≠sl->a≠pl->∀ o,H a=some o->G a=some o
theorem AS {Hb H G:Hp} {co sl pl:aa} (s:∀ b o,Hb b=some o->b≠co/\b≠sl/\b≠pl/\H b=some o) (ot:∀ a,a≠co->a≠sl->a≠pl->∀ o,H a=some o->G a=some o):∀ b o,Hb b=some o->b≠co/\b≠sl/\b≠pl/\G b=some o:=fun b o e=>by
 obtain ⟨n1,n2,n3,z⟩:=s b o e;exact ⟨n1,n2,n3,ot b n1 n2 n3 o z⟩
theorem bA.some {ι:Type} {P:aJ} {w:bJ} {K:af} {mg:Str->Option ae} {base:cu} {CX:CXT} {k:Nat} {f:aa} {fd:bR} {ps:List Str} {sp:ι->Sp} (F:∀ i,bA P w K mg base CX k f fd ps (sp i)) :
  bA P w K mg base CX k f fd ps (fun vs H Q E=>∃ i,sp i vs H Q E):=
 ⟨fun vs H Q E ⟨i,q⟩=>(F i).len vs H Q E q,fun A outer s H args us vs Q E hr he hb hv ⟨i,hs⟩=>(F i).run A outer s H args us vs Q E hr he hb hv hs⟩
theorem Ji {X:Cx} {o value:cM} {f:Str} {ta tv:TE} {pos pos':Pos} (K:af) (hK:X.K=K) (ha:PE X o ta) (hv:PE X value tv) (hs:sR value (some (.Attribute o f pos')) pos.line X.env=pure false):PS X (.Assign [.Attribute o f pos'] value pos) (sFld K ta tv f):=by
 rw [<- hK];exact d9 ha hv hs
theorem zz {σ:St} {H:Hp} {Q:List V->Hp->Prop} (h:Q [] H):Ab σ H Q:=h
theorem AU {D:lL} {σ:St} {H:Hp} (h:D.nx σ H):oB D σ H:=h
theorem Dl (xs:List Ev) (x:Ev) (pd:List Ev):og (xs++[x]) pd=vi x (og xs pd):=by
 unfold og;rw [Ft];rfl
section
variable {P:aJ} {w:bJ} {K:af} {mg:Str->Option ae} {base:cu} {f fPu fDn CC CM CS CD CF:aa} {fd fdPu fdDn:bR} {cf fW:Flt->aa} {fdW:Flt->bR}
seal PS PSs PE PA PT PW PI PG PGs PC
inductive Kv (CC CS:aa) (vs:List V) (H:Hp) (Q:VK) (_e:XK):Prop where
 | mk (Ms:List MD) (Hb:Hp) (ex:Ex) (co m sl pl:aa) (r:RS) (left:Int) (_:vs=[.ref co,.int left]) (_:iA CC CS Ms Hb ex H co m sl pl r) (_:∀ v G,bf H G->((gU r left=none/\v=.non)\/∃ e,gU r left=some e/\pz (Hid ex G) v e)->Q v G):Kv CC CS vs H Q _e
def Mo (CC CS:aa):Sp:=fun vs H Q _e=>Kv CC CS vs H Q _e
theorem scEd:bK ["self","left"] ["self","left"] (aL eY):={}
theorem BL (M:Mt K CC "ending_due" "Course.ending_due" eY ["self","left"] f fd) (T:CoT K mg CC):bA P w K mg base CX0 1 f fd ["self","left"] (Mo CC CS):=by
 refine M.F.ok scEd (fun vs H Q E h=>?_) (fun cdv A outer s H vs Q E hr h=>?_)
 ·obtain ⟨Ms,Hb,ex,co,m,sl,pl,r,left,rfl,_⟩:=h;rfl
 obtain ⟨Ms,Hb,ex,co,m,sl,pl,r,left,rfl,c,q⟩:=h;refine ⟨_,aj (cS (qj (A1 (cO (pv 0) rfl))) (ay (bM (cO (pv 0) rfl))) bY)
  (aj (cS (rF (uH (cO (pv 0) rfl) (fun _=>rfl))) (ay (bM (dR (ao bX ai)))) bY)
  (aj (cS (bP op_le (pv 1) aw (cb _)) (ay (bM (dR (ao bX ai)))) bY)
  (ay (bM uA)))),?_⟩
 obtain ⟨dx,rv,sv,h1,h2,h3⟩:=c.hc;obtain ⟨ps,h6,h7⟩:=c.hp;have nl:=aZ h7;have ntn:∀ {G:Hp},bf H G->∀ a∈ex,∃ o,G a=some o/\∀ xs,o≠.tup xs:=fun s a ha=>by
  obtain ⟨o,e,n⟩:=c.nt a ha;exact ⟨o,s _ _ e,n⟩
 cases hsp:r.sp with
 | some st =>
  rw [hsp] at h3;have due:gU r left=some (.stp st):=by
   unfold gU;rw [hsp]
  obtain ⟨t,rfl⟩:∃ t,sv=.ref t:=by
   cases st with
   | fin h =>
    obtain ⟨t,_,e,_⟩:=h3;exact ⟨t,e⟩
   | flt e h =>
    obtain ⟨t,_,e,_⟩:=h3;exact ⟨t,e⟩
  refine ⟨_,rfl,co,CC,dx,_,_,rfl,h1,T.cl,T.nE,Jd _ _ _ _ _,_,rfl,iL ?_⟩;exact ⟨_,rfl,co,CC,dx,_,_,rfl,h1,T.cl,T.nE,Jd _ _ _ _ _,q _ _ (bf.refl _) (.inr ⟨_,due,h3⟩)⟩
 | none =>
  rw [hsp] at h3;have h3:sv=.non:=h3;subst h3;refine ⟨_,rfl,co,CC,dx,_,_,rfl,h1,T.cl,T.nE,Jd _ _ _ _ _,_,rfl,fZ ?_⟩;refine ⟨_,rfl,co,CC,dx,_,_,rfl,h1,T.cl,T.nP,Jc _ _ _ _ _,_,.inl ⟨_,SqL.of h6,rfl⟩,?_⟩
  cases ps with
  | nil =>
   have e0:r.pd=[]:=List.eq_nil_of_length_eq_zero nl.symm;refine iL ⟨De,fun t ht=>q _ _ (aF ht _) (.inr ⟨.empty,?_,t,rfl,fX (ntn (aF ht _)) ah⟩)⟩;unfold gU;rw [hsp,e0];rfl
  | cons x xs =>
   have e0:r.pd.isEmpty=false:=by
    cases z:r.pd with
    | nil =>
     rw [z] at nl
     cases nl
    | cons _ _=>rfl
   refine fZ ?_;refine ⟨_,rfl,_,_,rfl,rfl,_,rfl,fV (fun cc=>?_) (fun cc=>?_)⟩
   ·have cc:=of_decide_eq_true cc;refine ⟨De,fun t ht=>q _ _ (aF ht _) (.inr ⟨.cut,?_,t,rfl,fX (ntn (aF ht _)) ah⟩)⟩;unfold gU;rw [hsp];dsimp only;rw [e0,if_neg (by decide),if_pos cc]
   ·have cc:¬ left<=0:=fun z=>cc (decide_eq_true z);refine q _ _ (bf.refl _) (.inl ⟨?_,rfl⟩);unfold gU;rw [hsp];dsimp only;rw [e0,if_neg (by decide),if_neg cc]
inductive Gm (CC CM CS:aa) (vs:List V) (H:Hp) (Q:VK) (_e:XK):Prop where
 | mk (Ms:List MD) (Hb:Hp) (ex:Ex) (co m sl pl:aa) (r:RS) (_:vs=[.ref co]) (_:tR CM Ms Hb m) (_:iA CC CS Ms Hb ex H co m sl pl r) (_:r.sp=none) (_:r.pd≠[]) (_:r.pd.length<=9000000) (_:∀ v G,iA CC CS Ms Hb ex G co m sl pl (gA Ms r).1->bf (Hid ex H) (Hid ex G)->Oth ex co sl pl H G->ToldR (Hid ex G) v (gA Ms r).2->Q v G):Gm CC CM CS vs H Q _e
def Kw (CC CM CS:aa):Sp:=fun vs H Q _e=>Gm CC CM CS vs H Q _e
abbrev nD1:List Str:=["self","happening","at","told","fault","sent"]
theorem Do:bK nD1 ["self"] (aL gT):={}
theorem Mp {n j:Nat} (h:j < n):ixN n (j:Int)=some j:=by
 unfold ixN;rw [if_pos (by omega),if_pos (by omega)];simp
theorem AV (M:Mt K CC "do_one" "Course.do_one" gT ["self"] f fd) (DPu:Df K mg "put_in" qS ["falling","thing"] fPu fdPu) (GPu:bA P w K mg base CX0 2 fPu fdPu ["falling","thing"] BG)
  (DDn:Df K mg "done" xW ["model","state","happening"] fDn fdDn) (GDn:∀ bq:List Str×List Str,bA P w K mg base (CXo P w) 37 fDn fdDn ["model","state","happening"] (FW cf CM CD CS bq.1 bq.2 5))
  (mW:∀ e,vK K (cf e) "word" (fW e)) (bW:∀ e,Binds K (fdW e) ["self"] []) (GW:∀ e,oW P w K mg base CX0 1 (fW e) (fdW e) ["self"] (pe (qh e))) (XN:∀ e,mX K (cf e)) (mF:mg "Fault"=some (.ref CF)) (hx:∀ e,cN K (.ref (cf e)) (.ref CF)=some true) (T:CoT K mg CC) (TM:MdT K mg CM CS) :
  bA P w K mg base CX0 38 f fd ["self"] (Kw CC CM CS):=by
 have GD:=bA.some GDn;refine M.F.ok Do (fun vs H Q E h=>?_) (fun cdv A outer s H vs Q E hr h=>?_)
 ·obtain ⟨Ms,Hb,ex,co,m,sl,pl,r,rfl,_⟩:=h;rfl
 obtain ⟨Ms,Hb,ex,co,m,sl,pl,r,rfl,hM,c,hsp,hpd,hln,k⟩:=h;have r1:c5 1 _:=hr.mono (by decide);have r2:c5 2 _:=hr.mono (by decide);obtain ⟨dx,rv,sv,hc0,hre,hsp0⟩:=c.hc;obtain ⟨ss,hs0,hss⟩:=c.hs;obtain ⟨ps,hp0,hps⟩:=c.hp
 -- the last one
 obtain ⟨h,hl⟩:∃ h,r.pd.getLast?=some h:=by
  cases e:r.pd.getLast? with
  | none=>exact absurd (yj.mp e) hpd
  | some h=>exact ⟨h,rfl⟩
 have spl:=vj hl;have hin:h∈r.pd:=by
  rw [spl];exact bD _ (aD.mpr rfl)
 have eo:=c.ok.ev h hin;obtain ⟨j,hj⟩:∃ j:Nat,h.to=(j:Int):=⟨h.to.toNat,by have:=eo.to0; omega⟩;have jl:j < Ms.length:=by have:=eo.to1; omega
 have ej:h.to.toNat=j:=by omega
 have js:j < r.sts.length:=by rw [c.ok.len]; exact jl
 obtain ⟨Mm,hMm⟩:∃ M,Ms[j]?=some M:=⟨_,aM jl⟩;obtain ⟨st0,hst0⟩:∃ s,r.sts[j]?=some s:=⟨_,aM js⟩;have d:Did Ms r h Mm st0:=⟨spl,by rw [ej]; exact hMm,by rw [ej]; exact hst0⟩;obtain ⟨ps',v,hpsv,hps',hv⟩:∃ ps' v,ps=ps'++[v]/\aP (gQ (Hid ex H)) ps' r.pd.dropLast/\gQ (Hid ex H) v h:=by
  rw [spl] at hps;exact Paired.snoc_inv hps
 obtain ⟨th,kh,rfl,hth,hkh⟩:=id hv
 -- the aX and the machine
 obtain ⟨dxm,ml,fs,hm,hfs,xs,hml,hxs⟩:=id hM;obtain ⟨mv,hmv,hMo⟩:=jw hxs hMm;obtain ⟨sta,hsta,hSt⟩:=jw hss hst0;have dk:=BK (P:=fun D=>D.toOk (Ms.length:Int)/\D.deep<=4/\D.size<=3 * ddz 4) hMo.hk ⟨by simp only [Ds.toOk],by simp only [Ds.deep]; omega,by simp only [Ds.size]; omega⟩ h.sg;have dz:3 * ddz 4<=5000:=by decide
 refine ⟨_,aj (bC (i:=1) Do.nd rfl (Or.inl rfl) (Ll bZ yG yH Lm (cO (pv 0) rfl)))
  (aj (bC (i:=2) Do.nd rfl (Or.inl rfl) (bU cz (pv 1) aw (fun _ _=>rfl)))
  (aj (IB (fun C σ G=>∃ (e:Flt) (u3 u4 u5:Option V),C=cf e/\σ=[some (.ref co),some (.ref th),some (.int h.to),u3,u4,u5]/\doS h Mm.ds (jh Mm.hs h.sg) st0.w=.error e/\bf (upd H pl (.lst ps')) G)
    (fun pins=>ay (bC (i:=3) Do.nd rfl (Or.inl rfl) (ER GD hr (by rfl) DDn.m DDn.F.kp DDn.b uR (ao (eC K (by rfl) (pv 0) (by rfl)) (ao (bU (FY K (by rfl)) (eC K (by rfl) (pv 0) (by rfl)) (pv 2) (fun _ _=>rfl)) (ao (pv 1) ai))))))
    (E6 4 (by rfl) mF Do.nd rfl rfl (fun ea=>aj (Ji K (by rfl) (pv 0) (dR (ao bX (ao (CZ (ι:=Flt) (C:=cf) (fm:=fW) (fd:=fdW) (sp:=fun e=>pe (qh e)) (pv 4) XN mW GW ⟨rfl,r1.dp,r1.un⟩ bW bj) (ao (bU (ny K (by rfl)) (pv 1) aw (fun _ _=>rfl)) ai)))) rfl) (ay (bM uA))) Bh)
    bY)
  (aj (rG (bU cz (pv 3) aw (fun _ _=>rfl)) (xp (cO (pv 0) rfl) (pv 2) qM))
  (aj (d9 (pv 0) (bU cz (pv 1) aw (fun _ _=>rfl)) rfl)
  (aj (i5 cR rfl (i0 (bU cz (bU cz (pv 3) aw (fun _ _=>rfl)) aw (fun _ _=>rfl))) (dQ (i:=5) Do.nd rfl (Or.inl rfl)) (ay (eI (aK GPu r2 (by rfl) DPu.m DPu.F.kp DPu.b .nil bj (ao (cO (pv 0) rfl) (ao (pv 5) ai))))))
  (aj (cS (mB (bU cz (pv 3) aw (fun _ _=>rfl))) (ay (d9 (pv 0) (dR (ao bX (ao (bU cz (pv 1) aw (fun _ _=>rfl)) ai))) rfl)) bY)
  (ay (bM (bU cz (pv 3) aw (fun _ _=>rfl)))))))))),?_⟩
 subst hpsv
 -- it is taken out
 refine cm (cW ?_);refine ⟨_,rfl,co,CC,dx,_,_,rfl,hc0,T.cl,T.nP,Jc _ _ _ _ _,.inl ⟨rfl,_,SqL.of hp0⟩,pl,_,.ref th,rfl,rfl,hp0,?_,?_⟩
 ·rw [aA];show (ps'++[V.ref th])[ps'.length + 1 - 1]?=_;rw [EY,dX (aC _),tQ];rfl
 rw [BH];refine bN ?_;dsimp only;have F1:Hid ex (upd H pl (.lst ps'))=Hid ex H:=hU c.i3;have hc1:upd H pl (.lst ps') co=some (.ins CC dx (gW (.ref m) (.ref sl) (.ref pl) rv sv)):=aR hc0 c.n2;have hs1:upd H pl (.lst ps') sl=some (.lst (ss.map V.ref)):=aR hs0 c.n3;have hp1:upd H pl (.lst ps') pl=some (.lst ps'):=ah;have nt1:∀ a∈ex,∃ o,upd H pl (.lst ps') a=some o/\∀ xs,o≠.tup xs:=fun a ha=>by
  by_cases z:a=pl
  ·rw [z];exact ⟨_,ah,fun xs z=>by cases z⟩
  ·obtain ⟨o,e,n⟩:=c.nt a ha;exact ⟨o,aR e z,n⟩
 have ot1:Oth ex co sl pl H (upd H pl (.lst ps')):=fun a _ _ z o e=>aR e z;revert F1 hc1 hs1 hp1 nt1 ot1;generalize upd H pl (.lst ps')=G1;intro F1 hc1 hs1 hp1 nt1 ot1;have sF1:bf (Hid ex H) G1:=by
  rw [<- F1];exact eA
 have sB1:bf Hb G1:=fun b o e=>by
  obtain ⟨n1,n2,n3,z⟩:=c.sm b o e;exact ot1 b n1 n2 n3 o z
 have hth1:=sF1 _ _ hth;refine cm (cW ?_);refine ⟨_,rfl,th,_,_,_,rfl,rfl,SqT.of hth1,rfl,?_⟩;refine bN ?_;dsimp only;refine cm ?_;refine ⟨?_,fun C σ' G6 hl ht=>?_⟩
 ·refine cW ?_;have at1:atI (ss.map V.ref) h.to=some (.ref sta):=by
   rw [hj];exact jB (by rw [cI,hsta]; rfl)
  refine ⟨_,rfl,co,CC,dx,_,_,rfl,hc1,T.cl,T.nM,co_m _ _ _ _ _,_,rfl,co,CC,dx,_,_,rfl,hc1,T.cl,T.nS,Gi _ _ _ _ _,_,rfl,sl,_,_,_,rfl,rfl,SqL.of hs1,at1,_,rfl,?_⟩;refine ⟨(Mm.bs,Mm.qs),m,dxm,ml,sta,fs,xs,.ref th,mv,h,Mm.ds,Mm.hs,st0.bx,st0.qu,st0.dr,st0.se,rfl,sB1 _ _ hm,hfs,sB1 _ _ hml,hv.same sF1,by rw [hj]; exact jB hmv,(hMo.same sB1).ma,jq.same' sF1 hSt,c.wk j Mm st0 hMm hst0,eo.wt,eo.wa,eo.wb,by omega,by omega,?_⟩
  cases ew:doS h Mm.ds (jh Mm.hs h.sg) (w0 st0.bx st0.qu st0.dr st0.se) with
  | error e =>
   exact fun G6 s6=>⟨_,rfl,e,_,_,_,rfl,rfl,ew,s6⟩
  | ok w' =>
   intro G6 L t6 rc wl ws1 ws2 qa Dn;have ew':doS h Mm.ds (jh Mm.hs h.sg) st0.w=.ok w':=ew;rw [um d ew'] at k;have N:=mj (m:=(Ms.length:Int)) _ _ _ dk.1 ew';obtain ⟨nw1,nw2,nw3⟩:=zx c.ok d N;obtain ⟨H0,s0,g⟩:=Dn.dg;have rok:=Gh c.ok d ew' N g.ok.wo;rw [um d ew'] at rok;obtain ⟨vs,hod,nod,hvs,hrec⟩:=Dn.told nt1;have sm6:=Dn.sm;obtain ⟨kk,hrc,_⟩:=Dn.hrc;have nx:∀ a∈L.all,a∉ex:=fun a ha z=>by
    obtain ⟨o,e,_⟩:=nt1 a z;have:=g.fr a ha;rw [s0 _ _ e] at this
    cases this
   have hsn:=g.sta nx;have f6:bf (Hid ex H) (Hid ex G6):=by
    rw [<- F1];exact gB sm6
   have sF6:bf (Hid ex G6) G6:=eA;have hc6:=sm6 _ _ hc1;have hs6:=sm6 _ _ hs1;have hp6:=sm6 _ _ hp1;have ot6:Oth ex co sl pl H G6:=fun a n1 n2 n3 o e=>sm6 _ _ (ot1 a n1 n2 n3 o e);have nt6:∀ a∈ex,∃ o,G6 a=some o/\∀ xs,o≠.tup xs:=fun a ha=>by
    obtain ⟨o,e,n⟩:=nt1 a ha;exact ⟨o,sm6 _ _ e,n⟩
   refine bN ?_;refine AU ?_;dsimp only;refine AU ?_;dsimp only
   -- the new state
   have jl2:j < (ss.map V.ref).length:=(aE.mp (show (ss.map V.ref)[j]?=some (.ref sta) by rw [cI,hsta]; rfl)).1;refine cm (cW ?_);refine ⟨_,rfl,t6,_,_,_,rfl,rfl,SqT.of Dn.ht,rfl,?_⟩;refine ⟨_,rfl,co,CC,dx,_,_,rfl,hc6,T.cl,T.nS,Gi _ _ _ _ _,_,rfl,sl,_,_,j,rfl,rfl,hs6,by rw [hj]; exact Mp jl2,?_⟩
   -- its key is reached
   have hth7:upd G6 sl (.lst ((ss.map V.ref).set j (.ref L.st))) th=some (.tup [.ref kh,.int h.to,.str h.sg,.int h.a,.int h.b]):=aR (sm6 _ _ hth1) (nF (sm6 _ _ hth1) hs6 (by intro z; cases z));have hc7:upd G6 sl (.lst ((ss.map V.ref).set j (.ref L.st))) co=some (.ins CC dx (gW (.ref m) (.ref sl) (.ref pl) rv sv)):=aR hc6 c.n1;refine cm ?_;refine ⟨_,rfl,th,_,_,_,rfl,rfl,SqT.of hth7,rfl,_,rfl,co,CC,dx,_,rfl,hc7,T.cl,T.nR,vn _ _ _ _ _,?_⟩;rw [BJ];have F8:Hid ex (upd (upd G6 sl (.lst ((ss.map V.ref).set j (.ref L.st)))) co (.ins CC dx (gW (.ref m) (.ref sl) (.ref pl) (.ref kh) sv)))=Hid ex G6:=by
    rw [hU c.i1,hU c.i2]
   have hc8:upd (upd G6 sl (.lst ((ss.map V.ref).set j (.ref L.st)))) co (.ins CC dx (gW (.ref m) (.ref sl) (.ref pl) (.ref kh) sv)) co=some (.ins CC dx (gW (.ref m) (.ref sl) (.ref pl) (.ref kh) sv)):=ah;have hs8:upd (upd G6 sl (.lst ((ss.map V.ref).set j (.ref L.st)))) co (.ins CC dx (gW (.ref m) (.ref sl) (.ref pl) (.ref kh) sv)) sl=some (.lst ((ss.map V.ref).set j (.ref L.st))):=aR ah c.n1.symm;have hp8:upd (upd G6 sl (.lst ((ss.map V.ref).set j (.ref L.st)))) co (.ins CC dx (gW (.ref m) (.ref sl) (.ref pl) (.ref kh) sv)) pl=some (.lst ps'):=aR (aR hp6 c.n3.symm) c.n2.symm;have ot8:Oth ex co sl pl H (upd (upd G6 sl (.lst ((ss.map V.ref).set j (.ref L.st)))) co (.ins CC dx (gW (.ref m) (.ref sl) (.ref pl) (.ref kh) sv))):=fun a n1 n2 n3 o e=>aR (aR (ot6 a n1 n2 n3 o e) n2) n1;have nt8:∀ a∈ex,∃ o,upd (upd G6 sl (.lst ((ss.map V.ref).set j (.ref L.st)))) co (.ins CC dx (gW (.ref m) (.ref sl) (.ref pl) (.ref kh) sv)) a=some o/\∀ xs,o≠.tup xs:=fun a ha=>by
    by_cases z:a=co
    ·rw [z];exact ⟨_,ah,fun xs z=>by cases z⟩
    ·by_cases y:a=sl
     ·rw [y];exact ⟨_,hs8,fun xs z=>by cases z⟩
     ·obtain ⟨o,e,n⟩:=nt6 a ha;exact ⟨o,aR (aR e y) z,n⟩
   revert F8 hc8 hs8 hp8 ot8 nt8;generalize upd (upd G6 sl (.lst ((ss.map V.ref).set j (.ref L.st)))) co (.ins CC dx (gW (.ref m) (.ref sl) (.ref pl) (.ref kh) sv))=G8;intro F8 hc8 hs8 hp8 ot8 nt8;have sF8:bf (Hid ex G6) G8:=by
    rw [<- F8];exact eA
   have ht6:Hid ex G6 t6=some (.tup [.ref L.st,.ref rc,.bl w'.en]):=fX nt6 Dn.ht;have hrc6:Hid ex G6 rc=_:=fX nt6 hrc;have hod6:Hid ex G6 L.od=some (.lst vs):=by
    rw [eG nod];exact hod
   have hth6:Hid ex G6 th=_:=fX nt6 (sm6 _ _ hth1);have hkh6:Hid ex G6 kh=some (AQ h):=f6 _ _ hkh
   -- what was sent is put in
   have fd':lu r.pd.dropLast:=by
    have z:=c.ok.fall;rw [spl] at z;exact (sC z).1
   have nopl:L.od≠pl:=fun z=>nod (by rw [z]; exact c.i3);refine cm ?_;refine ⟨_,rfl,t6,_,_,_,rfl,rfl,SqT.of (sF8 _ _ ht6),rfl,rc,_,_,_,rfl,rfl,SqT.of (sF8 _ _ hrc6),rfl,L.od,rfl,⟨_,SqL.of (sF8 _ _ hod6)⟩,jG (K:=K) (a:=L.od) (xs:=vs) (fun i σ G'=>∃ (u4 u:Option V) (ps:List V),σ=[some (.ref co),some (.ref th),some (.int h.to),some (.ref t6),u4,u]/\G' pl=some (.lst ps)/\aP (gQ (Hid ex G6)) ps (og (w'.out.take i) r.pd.dropLast)/\But pl G8 G')
    ⟨_,_,ps',rfl,hp8,by rw [jt]; exact Paired.mono (fun _ _ z=>z.same f6) hps',But.refl _ _⟩ ?_ ?_ ?_⟩
   ·rintro i σ G' _ ⟨_,_,_,rfl,_,_,b⟩;exact SqL.of (b _ _ (sF8 _ _ hod6) nopl)
   ·rintro i x σ G' hi ⟨u4,u,ps,rfl,g1,g2,b⟩;obtain ⟨e,he,hxe⟩:=me hvs hi;have sFb:bf (Hid ex G6) G':=fun a o z=>b _ _ (sF8 _ _ z) fun y=>gR z (by rw [y]; exact c.i3);have mem:e∈w'.out:=bV he;have tk:w'.out.take (i + 1)=w'.out.take i++[e]:=by
     rw [e9,he];rfl
    have fo:∀ x∈w'.out.take i,x.key≠e.key:=fun x hx=>by
     have pw:=nw2;rw [<- pS (i + 1) w'.out,tk] at pw;exact (gG.mp (gG.mp pw).1).2.2 x hx e (aD.mpr rfl)
    have fall:lu (og (w'.out.take i) r.pd.dropLast):=pT fd' (fun x hx=>nw1 x (BM hx)) (nw2.sublist (lP _ _));refine ⟨_,rfl,co,CC,dx,_,_,rfl,b _ _ hc8 c.n2,T.cl,T.nP,Jc _ _ _ _ _,_,rfl,?_⟩;refine zz ?_;show BG [V.ref pl,x] G' _ _;refine Je (F:=Hid ex G6) sFb g1 g2 fall hxe (fun y hy=>?_) ?_ fun ps2 hps2=>?_
    ·rcases cq.mp ((gf _ _).mem_iff.mp hy) with z | z
     ·exact fun q=>fo y z q.symm
     ·exact nw1 e mem y z
    ·rw [(gf _ _).length_eq,aA,jW,df];obtain ⟨new,e1,e2,_⟩:=N.ex;have e1:w'.out=new:=e1;have:=dk.2.2;rw [e1];omega
    ·refine ⟨_,_,ps2,rfl,ah,?_,b.trans (But.upd pl _ _)⟩;rw [tk,Dl];exact hps2
   rintro σ G9 ⟨u4,u,ps9,rfl,g1,g2,b⟩;have lvs:vs.length=w'.out.length:=aZ hvs;rw [lvs,dZ] at g2;have F9:bf (Hid ex G6) (Hid ex G9):=by
    rw [<- F8];exact Mh fun a o e n=>b _ _ e fun y=>n (by rw [y]; exact c.i3)
   have sF9:bf (Hid ex G6) G9:=F9.trans eA;have hc9:=b _ _ hc8 c.n2;have hs9:=b _ _ hs8 c.n3;have ot9:Oth ex co sl pl H G9:=fun a n1 n2 n3 o e=>b _ _ (ot8 a n1 n2 n3 o e) n3;have nt9:∀ a∈ex,∃ o,G9 a=some o/\∀ xs,o≠.tup xs:=fun a ha=>by
    by_cases z:a=pl
    ·rw [z];exact ⟨_,g1,fun xs z=>by cases z⟩
    ·obtain ⟨o,e,n⟩:=nt8 a ha;exact ⟨o,b _ _ e z,n⟩
   have wk9:∀ (i:Nat) (M:MD) (s:Sta),Ms[i]?=some M->(r.sts.set h.to.toNat ⟨w'.bx,w'.qu,w'.dr,w'.se⟩)[i]?=some s->o8 M.bs M.qs s.w:=fun i M s hi hs=>by
    rw [ej] at hs
    by_cases z:i=j
    ·rw [z,eZ js] at hs;rw [z,hMm] at hi
     cases hs
     cases hi;exact g.ok.clean
    ·rw [iB (fun y=>z y.symm)] at hs;exact c.wk i M s hi hs
   have st9:∀ {F:Hp},bf (Hid ex G6) F->aP (StA CS F) (ss.set j L.st) (r.sts.set h.to.toNat ⟨w'.bx,w'.qu,w'.dr,w'.se⟩):=fun {F} s=>by
    rw [ej];exact Paired.set (Paired.mono (fun _ _ z=>jq.same' (f6.trans s) z) hss) j (jq.same' s hsn)
   have ems:(ss.map V.ref).set j (.ref L.st)=(ss.set j L.st).map V.ref:=List.map_set.symm;rw [ems] at hs9;refine cm ?_;refine ⟨_,rfl,t6,_,_,_,rfl,rfl,SqT.of (sF9 _ _ ht6),rfl,w'.en,rfl,?_⟩
   cases een:w'.en with
   | true =>
    rw [een] at k rok;refine iL ?_;refine ⟨_,rfl,th,_,_,_,rfl,rfl,SqT.of (sF9 _ _ hth6),rfl,lt2,fun tz htz=>?_⟩;have sz:=aF htz (.tup [.str "end",.ref kh]);refine ⟨_,rfl,co,CC,dx,_,rfl,sz _ _ hc9,T.cl,T.nE,vn _ _ _ _ _,?_⟩;rw [yh];have F10:Hid ex (upd (upd G9 tz (.tup [.str "end",.ref kh])) co (.ins CC dx (gW (.ref m) (.ref sl) (.ref pl) (.ref kh) (.ref tz))))=Hid ex (upd G9 tz (.tup [.str "end",.ref kh])):=hU c.i1;have ntz:∀ a∈ex,∃ o,upd G9 tz (.tup [.str "end",.ref kh]) a=some o/\∀ xs,o≠.tup xs:=fun a ha=>by
     obtain ⟨o,e,n⟩:=nt9 a ha;exact ⟨o,sz _ _ e,n⟩
    have s10:bf (Hid ex G6) (Hid ex (upd G9 tz (.tup [.str "end",.ref kh]))):=F9.trans (gB sz);have htz10:Hid ex (upd G9 tz (.tup [.str "end",.ref kh])) tz=some (.tup [.str "end",.ref kh]):=fX ntz ah;have nco:∀ {a:aa} {o:HO},a≠co->upd G9 tz (.tup [.str "end",.ref kh]) a=some o->upd (upd G9 tz (.tup [.str "end",.ref kh])) co (.ins CC dx (gW (.ref m) (.ref sl) (.ref pl) (.ref kh) (.ref tz))) a=some o:=fun n e=>aR e n;have s10':bf (Hid ex G6) (upd (upd G9 tz (.tup [.str "end",.ref kh])) co (.ins CC dx (gW (.ref m) (.ref sl) (.ref pl) (.ref kh) (.ref tz)))):=by
     refine bf.trans s10 ?_;rw [<- F10];exact eA
    refine ⟨_,rfl,t6,_,_,_,rfl,rfl,SqT.of (s10' _ _ ht6),rfl,?_⟩;refine k _ _ ⟨rok,?_,c.i1,c.i2,c.i3,c.n1,c.n2,c.n3,⟨dx,_,_,ah,?_,?_⟩,⟨_,nco c.n1.symm (sz _ _ hs9),?_⟩,⟨_,nco c.n2.symm (sz _ _ g1),?_⟩,wk9,fun a ha=>?_⟩ ?_ ?_ ?_
    ·exact AS c.sm fun a n1 n2 n3 o e=>nco n1 (sz _ _ (ot9 a n1 n2 n3 o e))
    ·rw [F10];exact ⟨kh,rfl,s10 _ _ hkh6⟩
    ·rw [F10];exact ⟨tz,kh,rfl,htz10,s10 _ _ hkh6⟩
    ·rw [F10];exact st9 s10
    ·rw [F10];exact Paired.mono (fun _ _ z=>z.same s10) g2
    ·by_cases z:a=co
     ·rw [z];exact ⟨_,ah,fun xs z=>by cases z⟩
     ·obtain ⟨o,e,n⟩:=ntz a ha;exact ⟨o,nco z e,n⟩
    ·rw [F10];exact f6.trans s10
    ·exact fun a n1 n2 n3 o e=>nco n1 (sz _ _ (ot9 a n1 n2 n3 o e))
    ·rw [F10];exact hrec.same s10
   | false =>
    rw [een] at k rok;refine fZ ?_;have sv0:sv=.non:=by
     rw [hsp] at hsp0;exact hsp0
    refine ⟨_,rfl,t6,_,_,_,rfl,rfl,SqT.of (sF9 _ _ ht6),rfl,?_⟩;exact k _ _ ⟨rok,AS c.sm ot9,c.i1,c.i2,c.i3,c.n1,c.n2,c.n3,⟨dx,_,_,hc9,⟨kh,rfl,F9 _ _ hkh6⟩,sv0⟩,⟨_,hs9,st9 F9⟩,⟨_,g1,Paired.mono (fun _ _ z=>z.same F9) g2⟩,wk9,nt9⟩ (f6.trans F9) ot9 (hrec.same F9)
 ·-- a fault
  obtain ⟨e,u3,u4,u5,rfl,rfl,ew,s6⟩:=ht;rw [qZ d ew] at k;have rok:=Dj c.ok d ew;rw [qZ d ew] at rok;refine .inl ⟨hx e,fun ea hea=>?_⟩;have sx:=aF hea (XO ea (cf e));have s7:=s6.trans sx;have f7:bf (Hid ex H) (Hid ex (upd G6 ea (XO ea (cf e)))):=by
   rw [<- F1];exact gB s7
  refine cm ?_;refine ⟨_,rfl,ea,e,rfl,ah,_,rfl,_,rfl,th,_,_,_,rfl,rfl,SqT.of (s7 _ _ hth1),rfl,(by show 3<=aB; decide),fun tz htz=>?_⟩;have sz:=aF htz (.tup [.str "fault",.str (qh e),.ref kh]);have s8:=s7.trans sz;refine ⟨_,rfl,co,CC,dx,_,rfl,s8 _ _ hc1,T.cl,T.nE,vn _ _ _ _ _,?_⟩;rw [yh];revert htz sz s8;generalize upd G6 ea (XO ea (cf e))=G7 at f7 |-;intro htz sz s8;have F10:Hid ex (upd (upd G7 tz (.tup [.str "fault",.str (qh e),.ref kh])) co (.ins CC dx (gW (.ref m) (.ref sl) (.ref pl) rv (.ref tz))))=Hid ex (upd G7 tz (.tup [.str "fault",.str (qh e),.ref kh])):=hU c.i1;have ntz:∀ a∈ex,∃ o,upd G7 tz (.tup [.str "fault",.str (qh e),.ref kh]) a=some o/\∀ xs,o≠.tup xs:=fun a ha=>by
   obtain ⟨o,e,n⟩:=nt1 a ha;exact ⟨o,s8 _ _ e,n⟩
  have s10:bf (Hid ex H) (Hid ex (upd G7 tz (.tup [.str "fault",.str (qh e),.ref kh]))):=f7.trans (gB sz);have htz10:Hid ex (upd G7 tz (.tup [.str "fault",.str (qh e),.ref kh])) tz=some (.tup [.str "fault",.str (qh e),.ref kh]):=fX ntz ah;refine k _ _ ⟨rok,?_,c.i1,c.i2,c.i3,c.n1,c.n2,c.n3,⟨dx,_,_,ah,?_,?_⟩,⟨ss,aR (s8 _ _ hs1) c.n1.symm,?_⟩,⟨ps',aR (s8 _ _ hp1) c.n2.symm,?_⟩,c.wk,fun a ha=>?_⟩ ?_ ?_ rfl
  ·exact AS c.sm fun a n1 n2 n3 o e=>aR (s8 _ _ (ot1 a n1 n2 n3 o e)) n1
  ·rw [F10];exact hre.same s10
  ·rw [F10];exact ⟨tz,kh,rfl,htz10,s10 _ _ hkh⟩
  ·rw [F10];exact Paired.mono (fun _ _ z=>jq.same' s10 z) hss
  ·rw [F10];exact Paired.mono (fun _ _ z=>z.same s10) hps'
  ·by_cases z:a=co
   ·rw [z];exact ⟨_,ah,fun xs z=>by cases z⟩
   ·obtain ⟨o,e,n⟩:=ntz a ha;exact ⟨o,aR e z,n⟩
  ·rw [F10];exact s10
  ·exact fun a n1 n2 n3 o e=>aR (s8 _ _ (ot1 a n1 n2 n3 o e)) n1
end
def Dp (Ms:List MD):Prop:=∀ M∈Ms,∀ q∈M.hs,q.2.toOk (Ms.length:Int)/\q.2.deep<=4/\q.2.size<=3 * ddz 4
theorem tR.ok {CM:aa} {Ms:List MD} {H:Hp} {m:aa} (h:tR CM Ms H m):Dp Ms:=by
 obtain ⟨dx,ml,fs,_,_,xs,_,p⟩:=h;intro M hM;obtain ⟨j,hj⟩:=dM hM;obtain ⟨x,_,z⟩:=jw p hj;exact z.hk
theorem Mq {Ms:List MD} {r:RS} (k:ROk Ms.length r) (n:r.pd≠[]):∃ h M s,Did Ms r h M s:=by
 obtain ⟨h,hl⟩:∃ h,r.pd.getLast?=some h:=by
  cases e:r.pd.getLast? with
  | none=>exact absurd (yj.mp e) n
  | some h=>exact ⟨h,rfl⟩
 have spl:=vj hl;have hin:h∈r.pd:=by
  rw [spl];exact bD _ (aD.mpr rfl)
 have eo:=k.ev h hin;have jl:h.to.toNat < Ms.length:=by have:=eo.to1; have:=eo.to0; omega
 have js:h.to.toNat < r.sts.length:=by rw [k.len]; exact jl
 exact ⟨h,_,_,spl,aM jl,aM js⟩
inductive Gr (Ms:List MD) (r:RS):Prop
 | err (h:Ev) (M:MD) (s:Sta) (e:Flt) (d:Did Ms r h M s) (q:doS h M.ds (jh M.hs h.sg) s.w=.error e) (eq:gA Ms r=({r with pd:=r.pd.dropLast,sp:=some (.flt e h)},[]))
 | ok (h:Ev) (M:MD) (s:Sta) (w:Wk) (d:Did Ms r h M s) (q:doS h M.ds (jh M.hs h.sg) s.w=.ok w) (N:News (Ms.length:Int) h (3 * ddz 4) s.w w)
   (eq:gA Ms r=(⟨r.sts.set h.to.toNat ⟨w.bx,w.qu,w.dr,w.se⟩,og w.out r.pd.dropLast,some h,if w.en=true then some (.fin h) else none⟩,[⟨h,wrB M.bs w,wrQ M.qs w,w.out⟩]))
theorem uo {Ms:List MD} {r:RS} (mo:Dp Ms) (k:ROk Ms.length r) (n:r.pd≠[]):Gr Ms r:=by
 obtain ⟨h,M,s,d⟩:=Mq k n;have dk:=BK (P:=fun D=>D.toOk (Ms.length:Int)/\D.deep<=4/\D.size<=3 * ddz 4) (mo M (bV d.hM)) ⟨by simp only [Ds.toOk],by simp only [Ds.deep]; omega,by simp only [Ds.size]; omega⟩ h.sg
 cases q:doS h M.ds (jh M.hs h.sg) s.w with
 | error e=>exact .err h M s e d q (qZ d q)
 | ok w=>exact .ok h M s w d q ((mj _ _ _ dk.1 q).le dk.2.2) (um d q)
theorem ji {r:RS} {left:Int} (h:gU r left=none):r.sp=none/\r.pd≠[]/\0 < left:=by
 unfold gU at h
 split at h
 ·cases h
 ·rename_i e
  split at h
  ·cases h
  ·rename_i c
   split at h
   ·cases h
   ·refine ⟨e,fun z=>?_,by omega⟩;rw [z] at c;exact c rfl
theorem Mr {r:RS} {left:Int} {s:Stp} (h:r.sp=some s):gU r left=some (.stp s):=by
 unfold gU;rw [h]
theorem q8 {Ms:List MD} {r:RS} (h:Gr Ms r):(gA Ms r).1.pd.length<=r.pd.length + 5000 * (gA Ms r).2.length/\((∃ q,(gA Ms r).2=[q])\/((gA Ms r).2=[]/\∃ s,(gA Ms r).1.sp=some s)):=by
 cases h with
 | err h M s e d q eq =>
  rw [eq];refine ⟨?_,.inr ⟨rfl,_,rfl⟩⟩;show r.pd.dropLast.length<=_;rw [jW];omega
 | ok h M s w d q N eq =>
  rw [eq];refine ⟨?_,.inl ⟨_,rfl⟩⟩;show (og w.out r.pd.dropLast).length<=r.pd.length + 5000 * 1;rw [(gf _ _).length_eq,aA,jW];obtain ⟨new,e1,e2,_⟩:=N.ex;have e1:w.out=new:=e1;have dz:3 * ddz 4<=5000:=by decide
  rw [e1];omega
def pA (Ms:List MD) (r:RS) (most:Int) (i:Nat) (e:End):Prop:=(∀ j,j < i->ROk Ms.length (itR Ms r j).1/\gU (itR Ms r j).1 (most - (itR Ms r j).2.length)=none)/\gU (itR Ms r i).1 (most - (itR Ms r i).2.length)=some e/\ROk Ms.length (itR Ms r i).1
def rMu (σ:St) (G:Hp):Nat:=match (σ[3]?:Option (Option V)),(σ[2]?:Option (Option V)) with
 | some (some .non),some (some (.ref rl))=>(match G rl with | some (.lst rs)=>1 + (2000 - rs.length) | _=>0)
 | _,_=>0
theorem BN {σ:St} {G:Hp} {rl:aa} {rs:List V} (h6:σ[3]?=some (some .non)) (h5:σ[2]?=some (some (.ref rl))) (hr:G rl=some (.lst rs)):rMu σ G=1 + (2000 - rs.length):=by
 unfold rMu;rw [h6,h5];dsimp only;rw [hr]
theorem BO {σ:St} {G:Hp} {t:aa} (h6:σ[3]?=some (some (.ref t))):rMu σ G=0:=by
 unfold rMu;rw [h6]
theorem pz.ref {F:Hp} {v:V}:∀ {e:End},pz F v e->∃ t,v=.ref t
 | .empty,⟨t,e,_⟩=>⟨t,e⟩
 | .cut,⟨t,e,_⟩=>⟨t,e⟩
 | .stp (.fin _),⟨t,_,e,_⟩=>⟨t,e⟩
 | .stp (.flt _ _),⟨t,_,e,_⟩=>⟨t,e⟩
section
variable {P:aJ} {w:bJ} {K:af} {mg:Str->Option ae} {base:cu} {f fE fO CC CM CS:aa} {fd fdE fdO:bR}
seal PS PSs PE PA PT PW PI PG PGs PC
structure Ran (CC CS:aa) (Ms:List MD) (Hb:Hp) (ex:Ex) (co m sl pl:aa) (r:RS) (most:Int) (H G:Hp) (t:aa) (i:Nat) (e:End):Prop where
 st:pA Ms r most i e
 cc:iA CC CS Ms Hb ex G co m sl pl (itR Ms r i).1
 sm:bf (Hid ex H) (Hid ex G)
 ot:Oth ex co sl pl H G
 rs:∃ rl en rvs,Hid ex G t=some (.tup [.ref rl,en])/\Hid ex G rl=some (.lst rvs)/\H rl=none/\aP (RcIn (Hid ex G)) rvs (itR Ms r i).2/\pz (Hid ex G) en e
inductive Gs (CC CM CS:aa) (vs:List V) (H:Hp) (Q:VK) (_e:XK):Prop where
 | mk (Ms:List MD) (Hb:Hp) (ex:Ex) (co m sl pl:aa) (r:RS) (most:Int) (_:vs=[.ref co,.int most]) (_:tR CM Ms Hb m) (_:iA CC CS Ms Hb ex H co m sl pl r) (_:most<=1000) (_:r.pd.length<=1000000) (_:∀ G t i e,Ran CC CS Ms Hb ex co m sl pl r most H G t i e->Q (.ref t) G):Gs CC CM CS vs H Q _e
def BP (CC CM CS:aa):Sp:=fun vs H Q _e=>Gs CC CM CS vs H Q _e
abbrev nRn:List Str:=["course","most","records","ending","record"]
theorem Gu:bK nRn ["course","most"] (aL lY):={}
theorem AW (D:Df K mg "run_on" lY ["course","most"] f fd) (ME:Mt K CC "ending_due" "Course.ending_due" eY ["self","left"] fE fdE) (GE:bA P w K mg base CX0 1 fE fdE ["self","left"] (Mo CC CS))
  (MO:Mt K CC "do_one" "Course.do_one" gT ["self"] fO fdO) (GO:bA P w K mg base CX0 38 fO fdO ["self"] (Kw CC CM CS)) (T:CoT K mg CC) (B:Bl mg) :
  bA P w K mg base CX0 39 f fd ["course","most"] (BP CC CM CS):=by
 refine D.F.ok Gu (fun vs H Q E h=>?_) (fun cdv A outer s H vs Q E hr h=>?_)
 ·obtain ⟨Ms,Hb,ex,co,m,sl,pl,r,most,rfl,_⟩:=h;rfl
 obtain ⟨Ms,Hb,ex,co,m,sl,pl,r,most,rfl,hM,c,hmost,hln,k⟩:=h;have r1:c5 1 _:=hr.mono (by decide);refine ⟨_,aj (bC (i:=2) Gu.nd rfl (Or.inl rfl) (eS ai))
  (aj (bC (i:=3) Gu.nd rfl (Or.inl rfl) (fJ (pv 0) T.cl ME.m GE r1 ME.b .nil bj (ao (pv 1) ai)))
  (aj (uD cR (qj (Ei (pv 3)))
   (aj (bC (i:=4) Gu.nd rfl (Or.inl rfl) (iK (pv 0) T.cl MO.m GO hr MO.b .nil bj))
   (aj (cS (qj (A1 (pv 4))) (ay (eI (lQ bZ cP cQ gY (pv 2) (ao (pv 4) ai)))) bY)
   (ay (bC (i:=3) Gu.nd rfl (Or.inl rfl) (fJ (pv 0) T.cl ME.m GE r1 ME.b .nil bj (ao (cT jv (pv 1) (cL (fg K (by rfl)) (by rfl) B.len cA (ao (pv 2) ai))) ai)))))))
  (ay (bM (dR (ao (pv 2) (ao (pv 3) ai))))))),?_⟩
 have cok:∀ {G:Hp} {r':RS} {ex':Ex},iA CC CS Ms Hb ex' G co m sl pl r'->∃ dx fs,G co=some (.ins CC dx fs)/\fs.lookup ("ending_due":Str)=none/\fs.lookup ("do_one":Str)=none:=fun c'=>by
  obtain ⟨dx,rv,sv,h1,_⟩:=c'.hc;exact ⟨dx,_,h1,vp _ _ _ _ _ (by decide +kernel),vp _ _ _ _ _ (by decide +kernel)⟩
 have mo:=hM.ok
 -- no records
 refine cm (cW ?_);refine ⟨bT _,fun rl hrl=>?_⟩;refine bN ?_;dsimp only;have c0:=c.more (o:=.lst []) hrl (fun xs z=>by cases z);have hr0:upd H rl (.lst []) rl=some (.lst []):=ah;have f0:bf (Hid ex H) (Hid (ex.add rl) (upd H rl (.lst []))):=by
  rw [pj hrl];exact bf.refl _
 have ot0:Oth ex co sl pl H (upd H rl (.lst [])):=fun a _ _ _ o e=>aR e (av e hrl);have n1:co≠rl:=by
  obtain ⟨dx,rv,sv,h1,_⟩:=c.hc;exact av h1 hrl
 have n2:sl≠rl:=by
  obtain ⟨ss,h1,_⟩:=c.hs;exact av h1 hrl
 have n3:pl≠rl:=by
  obtain ⟨ss,h1,_⟩:=c.hp;exact av h1 hrl
 have nbrl:Hb rl=none:=by
  cases z:Hb rl with
  | none=>rfl
  | some o =>
   have y:=(c.sm _ _ z).2.2.2;rw [hrl] at y
   cases y
 revert c0 hr0 f0 ot0;generalize upd H rl (.lst [])=G0;intro c0 hr0 f0 ot0;refine cm (cW ?_);obtain ⟨dx,fs,hco,no1,no2⟩:=cok c0;refine ⟨_,rfl,co,dx,fs,rfl,hco,no1,_,rfl,Ms,Hb,ex.add rl,co,m,sl,pl,r,most,rfl,c0,fun en G1 s1 hen=>?_⟩;refine bN ?_;dsimp only;refine cm ?_;refine yM (fun σ G=>∃ (i:Nat) (en:V) (u4:Option V) (rvs:List V),σ=[some (.ref co),some (.int most),some (.ref rl),some en,u4]/\(∀ j,j < i->ROk Ms.length (itR Ms r j).1/\gU (itR Ms r j).1 (most - (itR Ms r j).2.length)=none)/\iA CC CS Ms Hb (ex.add rl) G co m sl pl (itR Ms r i).1 /\
   G rl=some (.lst rvs)/\aP (RcIn (Hid (ex.add rl) G)) rvs (itR Ms r i).2/\bf (Hid ex H) (Hid (ex.add rl) G)/\Oth ex co sl pl H G/\(itR Ms r i).1.pd.length<=1000000 + 5000 * (itR Ms r i).2.length /\
   ((gU (itR Ms r i).1 (most - (itR Ms r i).2.length)=none/\en=.non)\/∃ e,gU (itR Ms r i).1 (most - (itR Ms r i).2.length)=some e/\pz (Hid (ex.add rl) G) en e)) rMu ?_ ?_ ?_
 ·refine ⟨0,en,_,[],rfl,fun j hj=>absurd hj (hW _),c0.same s1,s1 _ _ hr0,.nil,f0.trans (gB s1),fun a q1 q2 q3 o e=>s1 _ _ (ot0 a q1 q2 q3 o e),by show r.pd.length<=_; omega,?_⟩;have e0:most - (((itR Ms r 0).2.length:Nat):Int)=most:=by
   show most - ((0:Nat):Int)=most;omega
  rw [e0];exact hen
 ·clear hen;rintro σ G ⟨i,en,u4,rvs,rfl,hj,c1,hrl1,hrv,f1,ot1,hpl,hd⟩;have lrv:=aZ hrv
  rcases hd with ⟨hd,rfl⟩ | ⟨e,hd,hen⟩
  ·obtain ⟨d1,d2,d3⟩:=ji hd;have si:=uo mo c1.ok d2;obtain ⟨sl1,sl2⟩:=q8 si;refine ⟨_,rfl,_,rfl,iL ?_⟩;refine cm (cW ?_);obtain ⟨dx,fs,hco,no1,no2⟩:=cok c1;refine ⟨_,rfl,co,dx,fs,rfl,hco,no2,Ms,Hb,ex.add rl,co,m,sl,pl,_,rfl,hM,c1,d1,d2,by omega,fun v G2 c2 f2 ot2 tl=>?_⟩;refine bN ?_;dsimp only;have hrl2:G2 rl=some (.lst rvs):=ot2 rl n1.symm n2.symm n3.symm _ hrl1;have ot2':Oth ex co sl pl H G2:=fun a q1 q2 q3 o e=>ot2 a q1 q2 q3 o (ot1 a q1 q2 q3 o e);have mu1:rMu [some (.ref co),some (.int most),some (.ref rl),some .non,u4] G=1 + (2000 - rvs.length):=BN rfl rfl hrl1;have big:2000 < aB:=by decide
   have itS:itR Ms r (i + 1)=((gA Ms (itR Ms r i).1).1,(itR Ms r i).2++(gA Ms (itR Ms r i).1).2):=rfl;have hj':∀ j,j < i + 1->ROk Ms.length (itR Ms r j).1/\gU (itR Ms r j).1 (most - (itR Ms r j).2.length)=none:=fun j hlt=>by
    rcases tN j i with z | z
    ·exact hj j z
    ·have:j=i:=by omega
     rw [this];exact ⟨c1.ok,hd⟩
   rcases sl2 with ⟨q,eq⟩ | ⟨eq,sp,esp⟩
   ·rw [eq] at tl sl1;obtain ⟨rc,erc⟩:∃ rc,v=.ref rc:=by
     obtain ⟨rc,_,_,_,_,_,_,_,e,_⟩:=tl;exact ⟨rc,e⟩
    subst erc;refine cm ?_;refine ⟨_,rfl,_,rfl,iL ?_⟩;refine ⟨_,rfl,.inl ⟨rfl,_,SqL.of hrl2⟩,_,rfl,rl,rvs,.ref rc,rfl,rfl,hrl2,by omega,?_⟩;have c3:=c2.upd (a:=rl) (o:=.lst (rvs++[.ref rc])) Ex.here nbrl n1 n2 n3 (fun xs z=>by cases z);have hrl3:upd G2 rl (.lst (rvs++[.ref rc])) rl=some (.lst (rvs++[.ref rc])):=ah;have f3:Hid (ex.add rl) (upd G2 rl (.lst (rvs++[.ref rc])))=Hid (ex.add rl) G2:=hU Ex.here;have ot3:Oth ex co sl pl H (upd G2 rl (.lst (rvs++[.ref rc]))):=fun a q1 q2 q3 o e=>aR (ot2' a q1 q2 q3 o e) (av e hrl);have hrv3:aP (RcIn (Hid (ex.add rl) (upd G2 rl (.lst (rvs++[.ref rc]))))) (rvs++[.ref rc]) (itR Ms r (i + 1)).2:=by
     rw [f3,itS,eq];exact eD (Paired.mono (fun _ _ z=>z.same f2) hrv) tl
    have f3':bf (Hid ex H) (Hid (ex.add rl) (upd G2 rl (.lst (rvs++[.ref rc])))):=by
     rw [f3];exact f1.trans f2
    have c3':iA CC CS Ms Hb (ex.add rl) (upd G2 rl (.lst (rvs++[.ref rc]))) co m sl pl (itR Ms r (i + 1)).1:=c3;revert c3' hrl3 ot3 hrv3 f3';clear c3 f3;generalize upd G2 rl (.lst (rvs++[.ref rc]))=G3;intro hrl3 ot3 hrv3 f3' c3';have l3:=aZ hrv3;dsimp only;refine cW ?_;obtain ⟨dx,fs,hco,no1,no2⟩:=cok c3';refine ⟨_,rfl,co,dx,fs,rfl,hco,no1,_,rfl,_,rfl,rl,_,rfl,.inl (SqL.of hrl3),_,_,rfl,rfl,Ms,Hb,ex.add rl,co,m,sl,pl,_,_,rfl,c3',fun en4 G4 s4 hen4=>?_⟩;refine bN ?_;dsimp only;refine ⟨⟨i + 1,en4,_,_,rfl,hj',c3'.same s4,s4 _ _ hrl3,Paired.mono (fun _ _ z=>z.same (gB s4)) hrv3,f3'.trans (gB s4),fun a q1 q2 q3 o e=>s4 _ _ (ot3 a q1 q2 q3 o e),?_,?_⟩,?_⟩
    ·rw [itS,eq,aA];show (gA Ms (itR Ms r i).1).1.pd.length<=_;show _<=1000000 + 5000 * ((itR Ms r i).2.length + 1);simp only [aT,cK] at sl1;omega
    ·rw [<- l3];exact hen4
    ·rw [mu1]
     rcases hen4 with ⟨_,rfl⟩ | ⟨e,_,he⟩
     ·rw [BN rfl rfl (s4 _ _ hrl3),aA];simp only [aT,cK];omega
     ·obtain ⟨t,rfl⟩:=he.ref;rw [BO rfl];omega
   ·rw [eq] at tl sl1;have tl:v=.non:=tl;subst tl;refine cm ?_;refine ⟨_,rfl,_,rfl,fZ (AU ?_)⟩;dsimp only;have c3':iA CC CS Ms Hb (ex.add rl) G2 co m sl pl (itR Ms r (i + 1)).1:=c2;have hrv3:aP (RcIn (Hid (ex.add rl) G2)) rvs (itR Ms r (i + 1)).2:=by
     rw [itS,eq,cE];exact Paired.mono (fun _ _ z=>z.same f2) hrv
    have l3:=aZ hrv3;refine cW ?_;obtain ⟨dx,fs,hco,no1,no2⟩:=cok c3';refine ⟨_,rfl,co,dx,fs,rfl,hco,no1,_,rfl,_,rfl,rl,_,rfl,.inl (SqL.of hrl2),_,_,rfl,rfl,Ms,Hb,ex.add rl,co,m,sl,pl,_,_,rfl,c3',fun en4 G4 s4 hen4=>?_⟩;refine bN ?_;dsimp only;have hen5:∃ e,gU (itR Ms r (i + 1)).1 (most - (rvs.length:Int))=some e/\pz (Hid (ex.add rl) G4) en4 e:=by
     rcases hen4 with ⟨z,_⟩ | z
     ·have y:gU (itR Ms r (i + 1)).1 (most - (rvs.length:Int))=some (.stp sp):=Mr esp;rw [y] at z
      cases z
     ·exact z
    refine ⟨⟨i + 1,en4,_,_,rfl,hj',c3'.same s4,s4 _ _ hrl2,Paired.mono (fun _ _ z=>z.same (gB s4)) hrv3,(f1.trans f2).trans (gB s4),fun a q1 q2 q3 o e=>s4 _ _ (ot2' a q1 q2 q3 o e),?_,?_⟩,?_⟩
    ·rw [itS,eq,cE];show (gA Ms (itR Ms r i).1).1.pd.length<=1000000 + 5000 * (itR Ms r i).2.length;simp only [cK] at sl1;omega
    ·rw [<- l3];exact .inr hen5
    ·rw [mu1];obtain ⟨e,_,he⟩:=hen5;obtain ⟨t,rfl⟩:=he.ref;rw [BO rfl];omega
  ·obtain ⟨t0,rfl⟩:=hen.ref;refine ⟨_,rfl,_,rfl,fZ ?_⟩;dsimp only;refine fb ?_;refine ⟨_,rfl,_,rfl,lt2,fun t ht=>?_⟩;have st_:=aF ht (.tup [.ref rl,.ref t0]);have f5:bf (Hid (ex.add rl) G) (Hid ex (upd G t (.tup [.ref rl,.ref t0]))):=(gB st_).trans zy;have nrl:rl∉ex:=fun z=>by
    obtain ⟨o,e,_⟩:=c.nt rl z;rw [hrl] at e
    cases e
   have nt5:∀ a∈ex,∃ o,upd G t (.tup [.ref rl,.ref t0]) a=some o/\∀ xs,o≠.tup xs:=fun a ha=>by
    obtain ⟨o,e,n⟩:=c1.nt a (Ex.more ha);exact ⟨o,st_ _ _ e,n⟩
   exact k _ t i e ⟨⟨hj,hd,c1.ok⟩,(c1.same st_).less n1 n2 n3,f1.trans f5,fun a q1 q2 q3 o e=>st_ _ _ (ot1 a q1 q2 q3 o e),rl,_,rvs,fX nt5 ah,by rw [eG nrl]; exact st_ _ _ hrl1,hrl,Paired.mono (fun _ _ z=>z.same f5) hrv,hen.same f5⟩
 ·rintro σ G4 Q1 Q2 hq ⟨x,hx,c,ec,z⟩;exact ⟨x,hx,c,ec,hq _ _ z⟩
end
def st0 (M:MD):Sta:=⟨M.ps,M.qs.map fun q=>(q,[]),0,0⟩
def p5 (es:List Ev):List Ev:=es.mapIdx fun i e=>atP e i
def kN (Ms:List MD) (es:List Ev):RS:=⟨Ms.map st0,og (p5 es) [],none,none⟩
theorem lJ {α β:Type} {R:α->β->Prop}:∀ {xs:List α} {ys:List β},xs.length=ys.length->(∀ (i:Nat) x y,xs[i]?=some x->ys[i]?=some y->R x y)->aP R xs ys
 | [],[],_,_=>.nil
 | [],_ :: _,l,_=>by cases l
 | _ :: _,[],l,_=>by cases l
 | x :: xs,y :: ys,l,h=>.cons (h 0 x y rfl rfl) (lJ (by simpa using l) fun i a b ha hb=>h (i + 1) a b (by simpa using ha) (by simpa using hb))
theorem mw (es:List Ev):(p5 es).length=es.length:=List.length_mapIdx
theorem q9 {es:List Ev} {i:Nat} {x:Ev} (h:(p5 es)[i]?=some x):∃ e,es[i]?=some e/\x=atP e i:=by
 unfold p5 at h;rw [List.getElem?_mapIdx] at h
 cases z:es[i]? with
 | none =>
  rw [z] at h
  cases h
 | some e =>
  rw [z] at h
  cases h;exact ⟨e,rfl,rfl⟩
theorem BQ (es:List Ev):(p5 es).Pairwise (fun a b=>a.key≠b.key):=by
 refine c9.mpr fun i j hi hj lt=>?_;obtain ⟨e,_,h1⟩:=q9 (es:=es) (i:=i) (x:=(p5 es)[i]) (aM hi);obtain ⟨e',_,h2⟩:=q9 (es:=es) (i:=j) (x:=(p5 es)[j]) (aM hj);rw [h1,h2];refine vk (.inr ?_);show (i:Int)≠(j:Int);omega
theorem BR {Ms:List MD} {es:List Ev} (h:∀ e∈es,zw Ms.length e):ROk Ms.length (kN Ms es):=by
 refine ⟨ar _,pT List.Pairwise.nil (fun x _ y hy=>by cases hy) (BQ es),fun e he=>?_,fun e he=>?_⟩
 ·rcases cq.mp ((gf _ _).mem_iff.mp he) with z | z
  ·obtain ⟨i,hi⟩:=dM z;obtain ⟨e',h',rfl⟩:=q9 hi;obtain ⟨a,b,c,d,f⟩:=h e' (bV h');exact ⟨a,b,c,d,f⟩
  ·cases z
 ·rcases cq.mp ((gf _ _).mem_iff.mp he) with z | z
  ·obtain ⟨i,hi⟩:=dM z;obtain ⟨e',h',rfl⟩:=q9 hi;exact .inl rfl
  ·cases z
theorem New.sta {H H':Hp} {CS st dx bd qd:aa} {ls:List aa} {M:MD} (N:New H H' CS st M.ps M.qs dx bd qd ls) (nb:(M.ps.map (·.1)).Nodup) (nq:M.qs.Nodup):StA CS H' st (st0 M):=by
 have inj:∀ xs:List Str,xs.Nodup->(xs.map (Sum.inr:Str->Key)).Nodup:=fun xs h=>List.Pairwise.map _ (fun a b z y=>z (kO y)) h;refine ⟨dx,bd,qd,M.qs.zip ls,N.hst,?_,?_,?_⟩
 ·have z:H' bd=some (.dK (qg (boK M.ps) [])):=N.hbd;have e:qg (boK M.ps) []=boK M.ps:=by
   rw [AE]
   ·exact j3 _
   ·rw [j3];unfold boK;rw [dS];have:=inj _ nb;rw [dS] at this;exact this
  rw [e] at z;exact z
 ·have z:H' qd=some (.dK (qg (quK (M.qs.zip ls)) [])):=N.hqd;have e:qg (quK (M.qs.zip ls)) []=quK (M.qs.zip ls):=by
   rw [AE]
   ·exact j3 _
   ·rw [j3];unfold quK;rw [dS];have e1:(M.qs.zip ls).map ((fun x:Key×V=>x.1) ∘ fun p:Str×aa=>((Sum.inr p.1:Key),V.ref p.2))=((M.qs.zip ls).map (·.1)).map (Sum.inr:Str->Key):=by
     rw [dS];rfl
    rw [e1,List.map_fst_zip (by rw [N.len]; exact aC _)];exact inj _ nq
  rw [e] at z;exact z
 ·refine lJ ?_ fun i x y hx hy=>?_
  ·show _=((M.qs.map fun q=>(q,([]:List Int)))).length;rw [o6,ar,N.len,Nat.min_self]
  ·have hx:=xQ.mp hx;have hy:(M.qs.map fun q=>(q,([]:List Int)))[i]?=some y:=hy;rw [cI,hx.1] at hy
   cases hy;exact ⟨rfl,(N.li _ (bV hx.2)).2⟩
theorem iS {H:Hp} {a:aa} (n:H a=none):a∉(⟨[],H⟩:Ex):=fun z=>z.elim (fun y=>by cases y) fun ⟨o,e,_⟩=>by
 have e:H a=some o:=e;rw [n] at e
 cases e
theorem New.hid {H0 H H':Hp} {CS st dx bd qd:aa} {ls:List aa} {ps:List (Str×Int)} {qs:List Str} (s:bf H0 H) (N:New H H' CS st ps qs dx bd qd ls):New (fun _=>none) (Hid ⟨[],H0⟩ H') CS st ps qs dx bd qd ls:=
 ⟨by rw [eG (iS (none_of s N.ost))]; exact N.hst,by rw [eG (iS (none_of s N.obd))]; exact N.hbd,by rw [eG (iS (none_of s N.oqd))]; exact N.hqd,N.len,N.nd,fun l hl=>⟨rfl,by rw [eG (iS (none_of s (N.li l hl).1))]; exact (N.li l hl).2⟩,rfl,rfl,rfl,N.ne,fun a o e=>by cases e⟩
theorem Gv {H G G':Hp} {l:List aa} (s:bf G G'):bf (Hid ⟨l,H⟩ G) (Hid ⟨[],H⟩ G'):=fun a o e=>by
 have na:a∉(⟨[],H⟩:Ex):=fun z=>gR e (z.elim (fun y=>by cases y) .inr);rw [eG na];exact s _ _ (eA _ _ e)
theorem vz {H G G':Hp} {l:List aa} (s:bf G G') (n:∀ a∈l,G a=none):bf (Hid ⟨[],H⟩ G) (Hid ⟨l,H⟩ G'):=fun a o e=>by
 have e':=eA _ _ e;have na:a∉(⟨l,H⟩:Ex):=fun z=>z.elim (fun y=>by rw [n a y] at e'; cases e') fun y=>gR e (.inr y);rw [eG na];exact s _ _ e'
theorem MoI.wk0 {m:Int} {H:Hp} {v:V} {M:MD} (h:MoI m H v M):o8 M.bs M.qs (st0 M).w:=by
 have w1:(10:Int) ^ 15=1000000000000000:=by decide
 refine ⟨h.kb,?_,h.nb,h.nq,fun p hp=>?_,fun p hp=>?_,iC,(fun x hx=>by cases hx),iC,(fun x hx=>by cases hx),(fun x hx=>by cases hx),?_⟩
 ·show (M.qs.map fun q=>(q,([]:List Int))).map (·.1)=_;rw [dS];exact List.map_id _
 ·exact h.wb p hp
 ·obtain ⟨q,_,rfl⟩:=cC.mp hp;exact ⟨bT _,fun n hn=>by cases hn⟩
 ·rw [aA];have:=h.lb;have:=h.lq;omega
section
variable {P:aJ} {w:bJ} {K:af} {mg:Str->Option ae} {base:cu} {f fI fF fPf fA fR fBk CC CM CS CB:aa} {fd fdI fdF fdPf fdA fdR fdBk:bR}
seal PS PSs PE PA PT PW PI PG PGs PC
inductive Kx (CC:aa) (vs:List V) (H:Hp) (Q:VK) (_e:XK):Prop where
 | mk (b dx:aa) (m s p:V) (_:vs=[.ref b,m,s,p]) (_:H b=some (.ins CC dx [])) (_:∀ G,G b=some (.ins CC dx (gW m s p .non .non))->But b H G->Q .non G):Kx CC vs H Q _e
def Mu (CC:aa):Sp:=fun vs H Q _e=>Kx CC vs H Q _e
theorem scCI:bK ["self","model","states","pending"] ["self","model","states","pending"] (aL lG):={}
theorem zA (F:Fun K "__init__" "Course.__init__" lG f fd) (T:CoT K mg CC):bA P w K mg base CX0 1 f fd ["self","model","states","pending"] (Mu CC):=by
 refine F.ok scCI (fun vs H Q E h=>?_) (fun cdv A outer s H vs Q E hr h=>?_)
 ·obtain ⟨b,dx,m,s',p,rfl,_⟩:=h;rfl
 obtain ⟨b,dx,m,s',p,rfl,hb,k⟩:=h;refine ⟨_,aj (d9 (pv 0) (pv 1) rfl) (aj (d9 (pv 0) (pv 2) rfl) (aj (d9 (pv 0) (pv 3) rfl) (aj (d9 (pv 0) uA rfl) (ay (d9 (pv 0) uA rfl))))),?_⟩;have l1:=gH "model" m [];have l2:=gH "states" s' (cD "model" m []);have l3:=gH "pending" p (cD "states" s' (cD "model" m []));have l4:=gH "reached" .non (cD "pending" p (cD "states" s' (cD "model" m [])));simp only [cK] at l1;refine ⟨_,rfl,_,rfl,b,CC,dx,[],rfl,hb,T.cl,T.nM,(by show 0 < 1000; decide),_,rfl,_,rfl,b,CC,dx,_,rfl,ah,T.cl,T.nS,(by omega),_,rfl,_,rfl,b,CC,dx,_,rfl,ah,T.cl,T.nP,(by omega),?_⟩;refine ⟨_,rfl,b,CC,dx,_,rfl,ah,T.cl,T.nR,(by omega),_,rfl,b,CC,dx,_,rfl,ah,T.cl,T.nE,(by omega),?_⟩;rw [Mj];exact k _ ah (((((But.upd b H _).trans (But.upd b _ _)).trans (But.upd b _ _)).trans (But.upd b _ _)).trans (But.upd b _ _))
inductive Gw (CC CM CS:aa) (vs:List V) (H:Hp) (Q:VK) (_e:XK):Prop where
 | mk (Ms:List MD) (m sgl:aa) (svs:List V) (es:List Ev) (_:vs=[.ref m,.ref sgl]) (_:tR CM Ms H m) (_:Ms.length < 1000) (_:H sgl=some (.lst svs)) (_:aP (v9 H) svs es) (_:es.length < 64) (_:(∀ e∈es,zw Ms.length e)) (_:∀ (G:Hp) (co sl pl:aa),iA CC CS Ms H ⟨[co,sl,pl],H⟩ G co m sl pl (kN Ms es)->Q (.ref co) G):Gw CC CM CS vs H Q _e
def BU (CC CM CS:aa):Sp:=fun vs H Q _e=>Gw CC CM CS vs H Q _e
abbrev nCa:List Str:=["model","signs","states"]
theorem scCa:bK nCa ["model","signs"] (aL eV):={}
theorem ndCa:((["at"]:List Str)++nCa).Nodup:=by decide +kernel
theorem AX (D:Df K mg "course_at_first" eV ["model","signs"] f fd) (DF:Df K mg "first_state" jC ["model","at"] fF fdF) (GF:bA P w K mg base CX0 3 fF fdF ["model","at"] (zk CM CS)) (DPf:Df K mg "pending_at_first" gj ["signs"] fPf fdPf) (GPf:bA P w K mg base CX0 1 fPf fdPf ["signs"] Kq)
  (MC:Mk K CC fI) (bI:Binds K fdI ["self","model","states","pending"] []) (GI:bA P w K mg base CX0 1 fI fdI ["self","model","states","pending"] (Mu CC)) (T:CoT K mg CC) (TM:MdT K mg CM CS) (B:Bl mg) (BS:mg "sorted"=none) :
  bA P w K mg base CX0 4 f fd ["model","signs"] (BU CC CM CS):=by
 refine D.F.ok scCa (fun vs H Q E h=>?_) (fun cdv A outer s H vs Q E hr h=>?_)
 ·obtain ⟨Ms,m,sgl,svs,es,rfl,_⟩:=h;rfl
 obtain ⟨Ms,m,sgl,svs,es,rfl,hM,hlen,hsg,hsv,hes,heo,k⟩:=h;have hu:=kQ hr;have h50:=Iu hr;have h5:=jc (DY (by decide:5<=50) _) h50;have r1:c5 1 _:=hr.mono (by decide);have r2:c5 2 _:=hr.mono (by decide);have r3:c5 3 _:=hr.mono (by decide);refine ⟨_,aj (Bi (i:=2) ["at"] (iF.open (NN:=nCa) (N:=nCa) (sc:=aL eV) rfl rfl (by decide +kernel) rfl (by decide +kernel) (by decide +kernel) rfl (by decide +kernel)) rfl scCa.nd rfl (Or.inl rfl) (iU (by rfl) B.range (ao (cL (fg K (by rfl)) (by rfl) B.len cA (ao (eC K (by rfl) (pv 0) (by rfl)) ai)) ai)) (fun _ _ _ _=>dQ (i:=0) ndCa rfl (Or.inl rfl)) (fun _ _ _ _=>j0)
   (fun _ _ _ _=>aK GF r3 (by rfl) DF.m DF.F.kp DF.b .nil bj (ao (pv 1) (ao (pv 0) ai))))
  (ay (bM (jA MC GI r2 (by rfl) T.m bI .nil bj (ao (pv 0) (ao (pv 2) (ao (Fi h5 (by rfl) BS (ao (aK GPf r1 (by rfl) DPf.m DPf.F.kp DPf.b .nil bj (ao (pv 1) ai)) ai) oz) ai)))))),?_⟩
 obtain ⟨dxm,ml,fs,hm,hfs,xs,hml,hxs⟩:=id hM;have lxs:xs.length=Ms.length:=aZ hxs;have big:=dY;refine cm (cW ?_);refine Dh (K:=K) (ms:=xs) rfl hm TM.clM TM.nM hfs hml (by omega) (fun i ys G=>∃ ss:List aa,ys=ss.map V.ref/\bf H G/\aP (StA CS (Hid ⟨[],H⟩ G)) ss ((Ms.take i).map st0)) ⟨[],rfl,bf.refl _,by rw [jt]; exact .nil⟩ ?_ ?_ ?_
 ·rintro i ys G hi ⟨ss,rfl,s1,p1⟩;have:=aZ p1;rw [ar,df] at this;rw [ar];omega
 ·rintro i ys G hi ⟨ss,rfl,s1,p1⟩;obtain ⟨Mi,hMi⟩:∃ M,Ms[i]?=some M:=⟨_,aM (by omega)⟩;obtain ⟨x,hx,mo⟩:=jw hxs hMi;obtain ⟨t,bl,ql,n0,x3,x4,vb,rfl,g1,g2,g3,g4⟩:=mo.fs;refine ⟨rfl,?_⟩;unfold vU;refine iL ?_;have lb:Mi.ps.length<=100:=by
   have e:=congrArg ja mo.kb;rw [ar] at e;have:=mo.lb;omega
  have lq:Mi.qs.length<=100:=by
   have:=mo.lq;omega
  refine ⟨_,rfl,_,rfl,m,dxm,ml,t,bl,ql,fs,n0,x3,x4,i,xs,vb,Mi.ps,Mi.qs,by rw [Int.zero_add]; rfl,s1 _ _ hm,hfs,s1 _ _ hml,hx,s1 _ _ g1,s1 _ _ g2,g3.same s1,lb,s1 _ _ g4,lq,fun st dx bd qd ls G' N=>?_⟩;refine ⟨ss++[st],by rw [cg]; rfl,s1.trans N.same,?_⟩;rw [e9,hMi,cg];exact eD (Paired.mono (fun _ _ z=>jq.same' (gB N.same) z) p1) ((N.hid s1).sta (by rw [mo.kb]; exact mo.nb) mo.nq)
 rintro ys G ⟨ss,rfl,s1,p1⟩;rw [lxs,dZ] at p1;intro sl hsl;have ssl:=aF hsl (.lst (ss.map V.ref));refine bN ?_;dsimp only;refine fb (qz ?_);have fsl:=none_of s1 hsl;refine ⟨_,rfl,_,rfl,_,rfl,sgl,svs,es,rfl,ssl _ _ (s1 _ _ hsg),Paired.mono (fun _ _ z=>(z.same s1).same ssl) hsv,by omega,fun G1 l0 ys sm1 fl0 hl0 ly hy=>?_⟩;have hys:aP (gQ G1) ys (p5 es):=lJ (by rw [mw]; exact ly) fun i y e hy' he=>by
  obtain ⟨e',h',rfl⟩:=q9 he;exact hy i y e' hy' h'
 obtain ⟨z1,z2,z3⟩:=vv hys;refine ⟨l0,(ys.zip (p5 es)).map fun u=>(u.1,u.2.key),rfl,?_,fun z hz=>?_,?_,?_,fun pl zs' hpl pm fz=>?_⟩
 ·rw [dS];have:((fun x:V×List Int=>x.1) ∘ fun u:V×Ev=>(u.1,u.2.key))=(fun u:V×Ev=>u.1):=rfl;rw [this,z1];exact hl0
 ·obtain ⟨u,hu,rfl⟩:=cC.mp hz;exact AR (z3 u hu)
 ·rw [dS];have:((fun x:V×List Int=>x.2) ∘ fun u:V×Ev=>(u.1,u.2.key))=Ev.key ∘ (fun u:V×Ev=>u.2):=rfl;rw [this,<- dS,z2];exact ju.mpr (BQ es)
 ·rw [ar,o6,mw];omega
 obtain ⟨ps,eps,hps⟩:=xc (F:=G1) (us:=ys.zip (p5 es)) (es:=og (p5 es) []) (zs:=zs') z3 pm fz (by
  rw [z2];have:=gf (p5 es) [];rw [cE] at this;exact this.symm) (BR heo).fall
 rw [eps];have spl:=aF hpl (.lst ps);have hsl1:=sm1 _ _ (ah:upd G sl (.lst (ss.map V.ref)) sl=_);have nsp:sl≠pl:=av hsl1 hpl;intro co dxc hco hdx ndx;have hslG:=spl _ _ hsl1;have hplG:upd G1 pl (.lst ps) pl=some (.lst ps):=ah;have nsc:sl≠co:=av hslG hco;have npc:pl≠co:=av hplG hco;have sA:bf H (upd G1 pl (.lst ps)):=(s1.trans (ssl.trans sm1)).trans spl;refine ⟨co,dxc,_,_,_,rfl,ah,fun G' hG' but=>⟨rfl,?_⟩⟩;have sB:bf (upd G1 pl (.lst ps)) G':=fun a o e=>but _ _ (aR (aR e (av e hdx)) (av e hco)) (av e hco);have fco:H co=none:=none_of sA hco;have fpl:H pl=none:=none_of (s1.trans (ssl.trans sm1)) hpl;have fG:∀ a∈[co,sl,pl],G a=none:=fun a ha=>by
  simp only [au,aS,or_false] at ha
  rcases ha with rfl | rfl | rfl
  ·exact none_of ((ssl.trans sm1).trans spl) hco
  ·exact hsl
  ·exact none_of (ssl.trans sm1) hpl
 have sG:bf (Hid ⟨[],H⟩ G) (Hid ⟨[co,sl,pl],H⟩ G'):=vz (((ssl.trans sm1).trans spl).trans sB) fG;have ntt:∀ a∈(⟨[co,sl,pl],H⟩:Ex),∃ o,G' a=some o/\∀ xs,o≠.tup xs:=fun a ha=>by
  rcases ha with ha | ⟨o,e,n⟩
  case inr=>exact ⟨o,(sA.trans sB) _ _ e,n⟩
  have ha:a∈[co,sl,pl]:=ha;simp only [au,aS,or_false] at ha
  rcases ha with rfl | rfl | rfl
  ·exact ⟨_,hG',fun xs z=>by cases z⟩
  ·exact ⟨_,sB _ _ hslG,fun xs z=>by cases z⟩
  ·exact ⟨_,sB _ _ hplG,fun xs z=>by cases z⟩
 refine k G' co sl pl ⟨BR heo,fun b o e=>⟨av e fco,av e fsl,av e fpl,(sA.trans sB) _ _ e⟩,.inl (by simp),.inl (by simp),.inl (by simp),nsc.symm,npc.symm,nsp,⟨dxc,_,_,hG',rfl,rfl⟩,⟨ss,sB _ _ hslG,Paired.mono (fun _ _ z=>jq.same' sG z) p1⟩,⟨ps,sB _ _ hplG,Paired.mono (fun _ _ z=>gQ.hid ntt (z.same (spl.trans sB))) hps⟩,fun i M s hi hs=>?_,ntt⟩;have hs:(Ms.map st0)[i]?=some s:=hs;rw [cI,hi] at hs
 cases hs;obtain ⟨x,_,mo⟩:=jw hxs hi;exact mo.wk0
structure Mv (CB CS:aa) (G:Hp) (b:aa) (q:RS×List Rec) (e:End):Prop where
 ex:∃ (dx rl sl:aa) (en:V) (rvs:List V) (ss:List aa),G b=some (.ins CB dx (F0 (.ref rl) en (.ref sl)))/\G rl=some (.lst rvs)/\aP (RcIn G) rvs q.2/\pz G en e/\G sl=some (.lst (ss.map V.ref))/\aP (StA CS G) ss q.1.sts
inductive GH (CM CS CB:aa) (vs:List V) (H:Hp) (Q:VK) (_e:XK):Prop where
 | mk (Ms:List MD) (m sgl:aa) (svs:List V) (es:List Ev) (most:Int) (_:vs=[.ref m,.ref sgl,.int most]) (_:tR CM Ms H m) (_:Ms.length < 1000) (_:H sgl=some (.lst svs)) (_:aP (v9 H) svs es) (_:es.length < 64) (_:(∀ e∈es,zw Ms.length e)) (_:most<=1000) (_:∀ (G:Hp) (b:aa) (i:Nat) (e:End),bf H G->pA Ms (kN Ms es) most i e->Mv CB CS (Hid ⟨[],H⟩ G) b (itR Ms (kN Ms es) i) e->Q (.ref b) G):GH CM CS CB vs H Q _e
def GJ (CM CS CB:aa):Sp:=fun vs H Q _e=>GH CM CS CB vs H Q _e
theorem Mw:bK ["model","signs","most","course","told"] ["model","signs","most"] (aL uj):={}
theorem Mx (D:Df K mg "plain" uj ["model","signs","most"] f fd) (DA:Df K mg "course_at_first" eV ["model","signs"] fA fdA) (GA:bA P w K mg base CX0 4 fA fdA ["model","signs"] (BU CC CM CS)) (DR:Df K mg "run_on" lY ["course","most"] fR fdR) (GR:bA P w K mg base CX0 39 fR fdR ["course","most"] (BP CC CM CS))
  (MB:Mk K CB fBk) (bB:Binds K fdBk ["self","records","ending","states"] []) (GB:bA P w K mg base CX0 1 fBk fdBk ["self","records","ending","states"] (Me CB)) (TB:BkT K mg CB) (T:CoT K mg CC) :
  bA P w K mg base CX0 40 f fd ["model","signs","most"] (GJ CM CS CB):=by
 refine D.F.ok Mw (fun vs H Q E h=>?_) (fun cdv A outer s H vs Q E hr h=>?_)
 ·obtain ⟨Ms,m,sgl,svs,es,most,rfl,_⟩:=h;rfl
 obtain ⟨Ms,m,sgl,svs,es,most,rfl,hM,hlen,hsg,hsv,hes,heo,hmost,k⟩:=h;have r2:c5 2 _:=hr.mono (by decide);have r4:c5 4 _:=hr.mono (by decide);refine ⟨_,aj (bC (i:=3) Mw.nd rfl (Or.inl rfl) (aK GA r4 (by rfl) DA.m DA.F.kp DA.b .nil bj (ao (pv 0) (ao (pv 1) ai))))
  (aj (bC (i:=4) Mw.nd rfl (Or.inl rfl) (aK GR hr (by rfl) DR.m DR.F.kp DR.b .nil bj (ao (pv 3) (ao (pv 2) ai))))
  (ay (bM (jA MB GB r2 (by rfl) TB.m bB .nil bj (ao (bU cz (pv 4) aw (fun _ _=>rfl)) (ao (bU cz (pv 4) aw (fun _ _=>rfl)) (ao (cO (pv 3) rfl) ai))))))),?_⟩
 refine cm (cW ?_);refine ⟨_,rfl,_,rfl,Ms,m,sgl,svs,es,rfl,hM,hlen,hsg,hsv,hes,heo,fun G co sl pl c=>?_⟩;refine bN ?_;dsimp only;refine cm (cW ?_);refine ⟨_,rfl,_,rfl,Ms,H,⟨[co,sl,pl],H⟩,co,m,sl,pl,_,most,rfl,hM,c,hmost,?_,fun G2 t i e R=>?_⟩
 ·show (og (p5 es) []).length<=1000000;rw [(gf _ _).length_eq,cE,mw];omega
 refine bN ?_;dsimp only;obtain ⟨rl,en,rvs,h1,h2,_,h3,h4⟩:=R.rs;obtain ⟨dx,rv,sv,h5,_⟩:=R.cc.hc;obtain ⟨ss,h6,h7⟩:=R.cc.hs;have hl:bf (Hid ⟨[co,sl,pl],H⟩ G2) G2:=eA;have sH2:bf H G2:=fun a o e=>(R.cc.sm a o e).2.2.2;have nsl:H sl=none:=by
  cases z:H sl with
  | none=>rfl
  | some o=>exact absurd rfl (R.cc.sm _ _ z).2.1
 refine fb (qz ?_);refine ⟨_,rfl,t,_,_,_,rfl,rfl,SqT.of (hl _ _ h1),rfl,_,rfl,t,_,_,_,rfl,rfl,SqT.of (hl _ _ h1),rfl,_,rfl,co,CC,dx,_,_,rfl,h5,T.cl,T.nS,Gi _ _ _ _ _,fun b dxb hb hdx nb=>⟨b,dxb,_,_,_,rfl,ah,fun G' hG' but=>⟨rfl,?_⟩⟩⟩;have sgb:bf G2 G':=fun a o e=>but _ _ (aR (aR e (av e hdx)) (av e hb)) (av e hb);have sl2:bf (Hid ⟨[co,sl,pl],H⟩ G2) (Hid ⟨[],H⟩ G'):=Gv sgb;exact k G' b i e (sH2.trans sgb) R.st ⟨dxb,rl,sl,en,rvs,ss,by rw [eG (iS (none_of sH2 hb))]; exact hG',sl2 _ _ h2,Paired.mono (fun _ _ z=>z.same sl2) h3,h4.same sl2,by rw [eG (iS nsl)]; exact sgb _ _ h6,Paired.mono (fun _ _ z=>jq.same' sl2 z) h7⟩
end
section
variable {P:aJ} {w:bJ} {K:af} {mg:Str->Option ae} {base:cu} {f fM fD:aa} {fd fdM fdD:bR}
def BV:Sp:=fun vs H Q _=>∃ c k:Int,vs=[.int c,.int k]/\eP c<=1048576/\∀ r:Int,Q (.int r) H
theorem Dq (x:Int):-(2 ^ 64) < x % 2147483629/\x % 2147483629 < 2 ^ 64:=by
 have h1:=kA x (show (2147483629:Int)≠0 by decide);have h2:=jg x (show (0:Int) < 2147483629 by decide);omega
theorem scM:bK ["_law_cell","_law_k","_law_number"] ["_law_cell","_law_k"] (aL kT):={}
theorem GK (D:Df K mg "_law_mixed" kT ["_law_cell","_law_k"] f fd):bA P w K mg base CX0 1 f fd ["_law_cell","_law_k"] BV:=by
 refine D.F.ok scM (fun vs H Q E h=>?_) (fun cdv A outer s H vs Q E hr h=>?_)
 ·obtain ⟨c,k,rfl,_⟩:=h;rfl
 obtain ⟨c,k,rfl,hc,q⟩:=h;refine ⟨_,aj (bC (i:=2) scM.nd rfl (Or.inl rfl) (cT qp (cT qm (cT gK (cT gK (cT gK (cT Il (pv 0) (pv 0)) (cT qm aw (pv 0))) (cT qm aw (pv 1))) aw) aw) aw))
  (ay (bM (cT qp (cT gK (cT qm (pv 2) (pv 2)) aw) aw))),?_⟩
 refine ⟨_,rfl,_,rfl,_,_,rfl,rfl,.of_bits hc hc,_,rfl,_,_,rfl,rfl,.inl ⟨by decide,by decide⟩,_,_,rfl,rfl,_,rfl,_,_,rfl,rfl,.inl ⟨by decide,by decide⟩,_,_,rfl,rfl,_,_,rfl,rfl,_,_,rfl,rfl,.inr ⟨by decide,by decide⟩,_,_,rfl,rfl,(by show (0:Int) < 2147483629; decide),?_⟩;refine ⟨_,rfl,_,rfl,_,_,rfl,rfl,.inl (Dq _),_,_,rfl,rfl,_,_,rfl,rfl,(by show (0:Int) < 2147483587; decide),?_⟩;exact q _
def dy (H:Hp) (p:aa):Prop:=∃ x y:Int,H p=some (.lst [.int x,.int y])
theorem dy.same {H H':Hp} {p:aa} (a:dy H p) (b:bf H H'):dy H' p:=by
 obtain ⟨x,y,e⟩:=a;exact ⟨x,y,b _ _ e⟩
inductive BX (vs:List V) (H:Hp) (Q:VK) (_e:XK):Prop where
 | mk (p:aa) (n:Int) (_:vs=[.ref p,.int n]) (_:dy H p) (_:0 < n) (_:n < 2 ^ 64) (_:∀ (r:Int) (H':Hp),0<=r->r < n->dy H' p->But p H H'->Q (.int r) H'):BX vs H Q _e
def jx:Sp:=fun vs H Q _e=>BX vs H Q _e
theorem scD:bK ["_law_purse_here","_law_out_of","_law_drawn"] ["_law_purse_here","_law_out_of"] (aL eg):={}
theorem jF (D:Df K mg "_law_draw" eg ["_law_purse_here","_law_out_of"] f fd):bA P w K mg base CX0 1 f fd ["_law_purse_here","_law_out_of"] jx:=by
 refine D.F.ok scD (fun vs H Q E h=>?_) (fun cdv A outer s H vs Q E hr h=>?_)
 ·obtain ⟨p,n,rfl,_⟩:=h;rfl
 obtain ⟨p,n,rfl,⟨x,y,hp⟩,hn,hn2,q⟩:=h;refine ⟨_,aj (cS (bP e7 (bU dI (pv 0) aw (fun _ _=>rfl)) aw (cb _)) (ay (rG (bU dI (pv 0) aw (fun _ _=>rfl)) (xp (pv 0) aw qM))) bY)
  (aj (bC (i:=2) scD.nd rfl (Or.inl rfl) (cT qp (bU dI (pv 0) aw (fun _ _=>rfl)) (pv 1)))
  (aj (rG (cT uT (bU dI (pv 0) aw (fun _ _=>rfl)) (pv 1)) (xp (pv 0) aw qM))
  (ay (bM (pv 2))))),?_⟩
 refine ⟨_,rfl,p,_,_,_,rfl,rfl,SqL.of hp,rfl,rfl,_,rfl,?_⟩;refine fV (fun c=>?_) (fun c=>?_)
 ·refine ⟨_,rfl,p,_,_,_,rfl,rfl,SqL.of hp,rfl,_,rfl,p,_,_,_,rfl,rfl,hp,rfl,?_⟩;have hp1:upd H p (.lst [.int y,.int y]) p=some (.lst [.int y,.int y]):=ah;refine ⟨_,rfl,p,_,_,_,rfl,rfl,SqL.of hp1,rfl,_,rfl,_,_,rfl,rfl,hn,?_⟩;refine ⟨_,rfl,p,_,_,_,rfl,rfl,SqL.of hp1,rfl,_,rfl,_,_,rfl,rfl,⟨hn,hn2⟩,_,rfl,p,_,_,_,rfl,rfl,hp1,rfl,?_⟩;refine ⟨_,rfl,?_⟩;exact q _ _ (kA _ (by omega)) (jg _ hn) ⟨_,_,ah⟩ ((But.upd p H _).trans (But.upd p _ _))
 ·refine ⟨_,rfl,p,_,_,_,rfl,rfl,SqL.of hp,rfl,_,rfl,_,_,rfl,rfl,hn,?_⟩;refine ⟨_,rfl,p,_,_,_,rfl,rfl,SqL.of hp,rfl,_,rfl,_,_,rfl,rfl,⟨hn,hn2⟩,_,rfl,p,_,_,_,rfl,rfl,hp,rfl,?_⟩;refine ⟨_,rfl,?_⟩;exact q _ _ (kA _ (by omega)) (jg _ hn) ⟨_,_,ah⟩ (But.upd p H _)
inductive zB (K:af) (vs:List V) (H:Hp) (Q:VK) (_e:XK):Prop where
 | mk (a:aa) (ns:List Int) (_:vs=[.ref a]) (_:SqL K H a (ns.map V.int)) (_:ns.length<=63) (_:(∀ x∈ns,eP x<=1048576)) (_:∀ (p:aa) (H':Hp),H p=none->dy H' p->bf H H'->Q (.ref p) H'):zB K vs H Q _e
def BY (K:af):Sp:=fun vs H Q _e=>zB K vs H Q _e
theorem scP:bK ["_law_script","_law_cells","_law_number","_law_k"] ["_law_script"] (aL kU):={}
theorem Jj {xs:List V} {lo hi:Option Int} {v:V} (h:v∈lC xs lo hi):v∈xs:=by
 unfold lC at h;exact List.mem_of_mem_drop (BM h)
theorem Mz {xs:List V} (h:xs≠[]) (z:Int):∃ v,atI xs (z % (xs.length:Int))=some v/\v∈xs:=by
 have hl:0 < xs.length:=Dt.mpr h;have h0:=kA z (show (xs.length:Int)≠0 by omega);have h1:=jg z (show (0:Int) < (xs.length:Int) by omega);obtain ⟨j,hj⟩:∃ j:Nat,z % (xs.length:Int)=(j:Int):=⟨(z % (xs.length:Int)).toNat,by omega⟩;rw [hj] at h1 |-;have hj2:j < xs.length:=by omega
 exact ⟨xs[j],jB (aM hj2),uh hj2⟩
theorem GV (D:Df K mg "_law_purse" kU ["_law_script"] f fd) (DM:Df K mg "_law_mixed" kT ["_law_cell","_law_k"] fM fdM) (B:Bl mg):bA P w K mg base CX0 2 f fd ["_law_script"] (BY K):=by
 have GM:bA P w K mg base CX0 1 fM fdM ["_law_cell","_law_k"] BV:=GK DM;refine D.F.ok scP (fun vs H Q E h=>?_) (fun cdv A outer s H vs Q E hr h=>?_)
 ·obtain ⟨a,ns,rfl,_⟩:=h;rfl
 obtain ⟨a,ns,rfl,hS,hlen,hbits,q⟩:=h;refine ⟨_,aj (bC (i:=1) scP.nd rfl (Or.inl rfl) (cT Lo (qL tW (pv 0) tU (tV aw)) (eS (ao aw ai))))
  (aj (bC (i:=2) scP.nd rfl (Or.inl rfl) aw)
  (aj (i5 cR rfl (iU rfl B.range (ao aw ai)) (dQ (i:=3) scP.nd rfl (Or.inl rfl))
   (ay (bC (i:=2) scP.nd rfl (Or.inl rfl) (cT gK (cT qm (pv 2) aw) (aK GM hr rfl DM.m DM.F.kp DM.b .nil bj (ao (bU dI (pv 1) (cT qp (pv 3) (cL gP (by rfl) B.len cA (ao (pv 1) ai))) (fun _ _=>rfl)) (ao (pv 3) ai)))))))
  (aj (cS (bP e7 (cT qp (bU dI (pv 1) aw (fun _ _=>rfl)) aw) aw (cb _))
   (ay (bM (eS (ao (cL (wz rfl) (by rfl) B.max boot_max (ao (cT uT (bU dI (pv 1) aw (fun _ _=>rfl)) aw) (ao (cT jv (JM Ep aw) (cT uT (bU dI (pv 1) aw (fun _ _=>rfl)) aw)) ai))) (ao (pv 2) ai))))) bY)
  (ay (bM (eS (ao (pv 2) (ao (pv 2) ai)))))))),?_⟩
 -- cells = script[:63] + [0]
 refine ⟨_,rfl,_,rfl,a,_,rfl,hS,fun l hl=>⟨(by show 1<=aB; decide),fun m hm=>?_⟩⟩;have hlm:l≠m:=av (ah:upd H l (.lst (lC (ns.map V.int) none (some 63))) l=_) hm;have cl:(lC (ns.map V.int) none (some 63)).length<=63:=cZ (sY _ _ _) (by rw [ar]; exact hlen);have l64:(lC (ns.map V.int) none (some 63)).length + [V.int 0].length<=aB:=by
  have z:64<=aB:=by decide
  rw [Ak];omega
 refine ⟨l,m,_,_,rfl,rfl,(by rw [aH hlm]; exact ah),ah,l64,fun c hc=>?_⟩;generalize hcs:lC (ns.map V.int) none (some 63)++[V.int 0]=cs at hc |-;have sc:bf H (upd (upd (upd H l (.lst (lC (ns.map V.int) none (some 63)))) m (.lst [.int 0])) c (.lst cs)):=(aF hl _).trans ((aF hm _).trans (aF hc _));generalize hH:upd (upd (upd H l (.lst (lC (ns.map V.int) none (some 63)))) m (.lst [.int 0])) c (.lst cs)=H1 at sc |-;have hc1:H1 c=some (.lst cs):=by rw [<- hH]; exact ah
 have nonil:cs≠[]:=by rw [<- hcs]; simp
 have cells:∀ v∈cs,∃ z:Int,v=.int z/\eP z<=1048576:=fun v hv=>by
  rw [<- hcs] at hv
  rcases cq.mp hv with z | z
  ·obtain ⟨n,hn,rfl⟩:=cC.mp (Jj z);exact ⟨n,rfl,hbits n hn⟩
  ·rw [aD.mp z];exact ⟨0,rfl,by decide⟩
 -- number = 1; for k in range(150)
 refine ⟨150,rfl,by decide,by decide,pG (n:=150) (fun i σ H2=>∃ (z:Int) (v:Option V),σ=[some (.ref a),some (.ref c),some (.int z),v]/\H2=H1) ⟨1,none,rfl,rfl⟩ ?_ ?_⟩
 ·rintro i σ H2 hi ⟨z,v,rfl,rfl⟩;obtain ⟨u,hu,hm2⟩:=Mz nonil (0 + (i:Int));obtain ⟨y,rfl,hy⟩:=cells u hm2;have lpos:(0:Int) < (cs.length:Int):=by
   have:=Dt.mpr nonil;omega
  refine ⟨_,rfl,_,_,rfl,rfl,.inr ⟨by decide,by decide⟩,_,rfl,_,rfl,_,rfl,c,_,rfl,.inl (SqL.of hc1),_,_,rfl,rfl,lpos,c,_,_,_,rfl,rfl,SqL.of hc1,hu,_,rfl,y,_,rfl,hy,fun r=>?_⟩;exact ⟨_,_,rfl,rfl,_,_,rfl,rfl⟩
 ·rintro σ H2 ⟨z,v,rfl,rfl⟩;obtain ⟨x0,hx0⟩:∃ x0,cs[0]?=some x0:=by
   cases cs with
   | nil=>exact absurd rfl nonil
   | cons x0 r=>exact ⟨x0,rfl⟩
  obtain ⟨y,rfl,hy⟩:=cells x0 (bV hx0);have a0:atI cs 0=some (.int y):=jB (j:=0) hx0;refine ⟨_,rfl,c,_,_,_,rfl,rfl,SqL.of hc1,a0,_,_,rfl,rfl,(by show (0:Int) < 2; decide),rfl,_,rfl,?_⟩;have two:JW y 2:=⟨by decide,by decide⟩;refine fV (fun _=>?_) (fun _=>?_)
  ·refine ⟨_,rfl,c,_,_,_,rfl,rfl,SqL.of hc1,a0,_,_,rfl,rfl,two,_,rfl,_,rfl,c,_,_,_,rfl,rfl,SqL.of hc1,a0,_,_,rfl,rfl,two,_,_,rfl,rfl,_,_,rfl,_,rfl,lt2,fun p hp=>?_⟩;exact q p _ (sc.free hp) ⟨_,_,ah⟩ (sc.trans (aF hp _))
  ·refine ⟨_,rfl,_,rfl,lt2,fun p hp=>?_⟩;exact q p _ (sc.free hp) ⟨_,_,ah⟩ (sc.trans (aF hp _))
end
section
variable {X:Cx} {es:List cM} {te:TE} {t:TA}
theorem zC {es':List cM} {k:Nat} {p:Pos} {env:Env}:cw (.Tuple es' k p :: es) env=(false,fc (.Tuple es' k p) env) :: cw es env:=by rfl
theorem vA {es':List cM} {k:Nat} {p:Pos} (ha:PE X (.Tuple es' k p) te) (hr:PA X es t):PA X (.Tuple es' k p :: es) (nI te t):=ao ha hr (by rfl)
theorem MA {es':List cM} {p:Pos} (ha:PE X (.List es' p) te) (hr:PA X es t):PA X (.List es' p :: es) (nI te t):=ao ha hr (by rfl)
theorem dC {c:Const} {k:Nat} {p:Pos} (ha:PE X (.Constant c k p) te) (hr:PA X es t):PA X (.Constant c k p :: es) (nI te t):=ao ha hr (by rfl)
theorem bE {x:Str} {p:Pos} (ha:PE X (.Name x p) te) (hr:PA X es t):PA X (.Name x p :: es) (nI te t):=ao ha hr (by rfl)
theorem iN {g:cM} {as:List cM} {ks:List M9} {p:Pos} (ha:PE X (.Call g as ks p) te) (hr:PA X es t):PA X (.Call g as ks p :: es) (nI te t):=ao ha hr (by rfl)
theorem qC {a b:cM} {p:Pos} (ha:PE X (.Subscript a b p) te) (hr:PA X es t):PA X (.Subscript a b p :: es) (nI te t):=ao ha hr (by rfl)
theorem rg {a b:cM} {o:HK} {p:Pos} (ha:PE X (.BinOp a o b p) te) (hr:PA X es t):PA X (.BinOp a o b p :: es) (nI te t):=ao ha hr (by rfl)
end
theorem hV {t:L2.TT} {a b:TS} {D:lL} {σ:St} {H:Hp} (h:t σ H fun c H1=>if c=true then a D σ H1 else b D σ H1):tIfS t a b D σ H:=h
theorem eu.ref {bs qs:List Str} {H:Hp} {d:Dd} {v:V} (h:eu bs qs H d v):∃ t,v=.ref t:=by
 cases d <;> simp only [eu] at h
 ·obtain ⟨t,_,e,_⟩:=h;exact ⟨t,e⟩
 ·obtain ⟨t,_,e,_⟩:=h;exact ⟨t,e⟩
 ·obtain ⟨t,_,e,_⟩:=h;exact ⟨t,e⟩
 ·obtain ⟨t,_,e,_⟩:=h;exact ⟨t,e⟩
 ·obtain ⟨t,_,_,_,e,_⟩:=h;exact ⟨t,e⟩
 ·obtain ⟨t,_,_,_,e,_⟩:=h;exact ⟨t,e⟩
 ·obtain ⟨t,e,_⟩:=h;exact ⟨t,e⟩
theorem Tree.scal {H:Hp} {v:V} (h:AD v):∀ n,Tree H n v
 | 0=>h
 | _ + 1=>.inl h
theorem Tree.atup {H:Hp} {a:aa} {xs:List V} {n:Nat} (h:H a=some (.tup xs)) (l:xs.length < 1000) (k:∀ x∈xs,Tree H n x):Tree H (n + 1) (.ref a):=.inr ⟨a,xs,rfl,.inr h,l,k⟩
theorem Tree.alst {H:Hp} {a:aa} {xs:List V} {n:Nat} (h:H a=some (.lst xs)) (l:xs.length < 1000) (k:∀ x∈xs,Tree H n x):Tree H (n + 1) (.ref a):=.inr ⟨a,xs,rfl,.inl h,l,k⟩
theorem iZ.tree {bs qs:List Str} {H:Hp} {v:V} {f:Fm} (h:iZ bs qs H v f):∀ n,f.depth<=n->Tree H n v:=by
 induction h with
 | num h1 _=>exact fun n hn=>match n,hn with
  | n + 1,_=>Tree.atup h1 (by show 2 < 1000; decide) fun x hx=>by
   simp only [au,aS,or_false] at hx
   rcases hx with rfl | rfl <;> exact Tree.scal (by exact trivial) _
  | 0,hn=>absurd hn (by unfold Fm.depth; decide)
 | box h1 _=>exact fun n hn=>match n,hn with
  | n + 1,_=>Tree.atup h1 (by show 2 < 1000; decide) fun x hx=>by
   simp only [au,aS,or_false] at hx
   rcases hx with rfl | rfl <;> exact Tree.scal (by exact trivial) _
  | 0,hn=>absurd hn (by unfold Fm.depth; decide)
 | long h1 _=>exact fun n hn=>match n,hn with
  | n + 1,_=>Tree.atup h1 (by show 2 < 1000; decide) fun x hx=>by
   simp only [au,aS,or_false] at hx
   rcases hx with rfl | rfl <;> exact Tree.scal (by exact trivial) _
  | 0,hn=>absurd hn (by unfold Fm.depth; decide)
 | got h1=>exact fun n hn=>match n,hn with
  | n + 1,_=>Tree.atup h1 (by show 2 < 1000; decide) fun x hx=>by
   simp only [au,aS,or_false] at hx
   rcases hx with rfl | rfl <;> exact Tree.scal (by exact trivial) _
  | 0,hn=>absurd hn (by unfold Fm.depth; decide)
 | now h1=>exact fun n hn=>match n,hn with
  | n + 1,_=>Tree.atup h1 (by show 1 < 1000; decide) fun x hx=>by
   simp only [au,aS,or_false] at hx
   rcases hx with rfl
   exact Tree.scal (by exact trivial) _
  | 0,hn=>absurd hn (by unfold Fm.depth; decide)
 | two h1 _ _ _ ih1 ih2=>exact fun n hn=>match n,hn with
  | n + 1,hn=>Tree.atup h1 (by show 3 < 1000; decide) fun x hx=>by
   unfold Fm.depth at hn;simp only [au,aS,or_false] at hx
   rcases hx with rfl | rfl | rfl
   ·exact Tree.scal (by exact trivial) _
   ·exact ih1 n (by omega)
   ·exact ih2 n (by omega)
  | 0,hn=>absurd hn (by unfold Fm.depth; omega)
mutual
theorem eu.tree {bs qs:List Str} {H:Hp}:∀ (d:Dd) (v:V) (n:Nat),eu bs qs H d v->2 * d.deep + 16<=n->Tree H n v
 | _,_,0,_,hn=>absurd hn (by omega)
 | .put x f,v,n + 1,h,hn=>by
  obtain ⟨t,u,rfl,h1,h2,h3⟩:=(by simpa only [eu] using h);refine Tree.atup h1 (by show 3 < 1000; decide) fun y hy=>?_;simp only [au,aS,or_false] at hy
  rcases hy with rfl | rfl | rfl
  ·exact Tree.scal (by exact trivial) _
  ·exact Tree.scal (by exact trivial) _
  ·exact h3.1.tree n (by have:=h3.2; omega)
 | .push q f,v,n + 1,h,hn=>by
  obtain ⟨t,u,rfl,h1,h2,h3⟩:=(by simpa only [eu] using h);refine Tree.atup h1 (by show 3 < 1000; decide) fun y hy=>?_;simp only [au,aS,or_false] at hy
  rcases hy with rfl | rfl | rfl
  ·exact Tree.scal (by exact trivial) _
  ·exact Tree.scal (by exact trivial) _
  ·exact h3.1.tree n (by have:=h3.2; omega)
 | .pull q x o,v,n + 1,h,hn=>by
  obtain ⟨t,u,rfl,h1,h2,h3,l,vs,rfl,h4,h5,h6⟩:=(by simpa only [eu] using h);unfold Dd.deep at hn;refine Tree.atup h1 (by show 4 < 1000; decide) fun y hy=>?_;simp only [au,aS,or_false] at hy
  rcases hy with rfl | rfl | rfl | rfl
  ·exact Tree.scal (by exact trivial) _
  ·exact Tree.scal (by exact trivial) _
  ·exact Tree.scal (by exact trivial) _
  ·obtain ⟨m,rfl⟩:∃ m,n=m + 1:=⟨n - 1,by omega⟩;exact Tree.alst h4 h5 (eX.tree o vs m h6 (by omega))
 | .draw x f,v,n + 1,h,hn=>by
  obtain ⟨t,u,rfl,h1,h2,h3⟩:=(by simpa only [eu] using h);refine Tree.atup h1 (by show 3 < 1000; decide) fun y hy=>?_;simp only [au,aS,or_false] at hy
  rcases hy with rfl | rfl | rfl
  ·exact Tree.scal (by exact trivial) _
  ·exact Tree.scal (by exact trivial) _
  ·exact h3.1.tree n (by have:=h3.2; omega)
 | .send to sg sp rk a b,v,n + 1,h,hn=>by
  obtain ⟨t,u,u1,u2,rfl,h1,h2,h3,h4⟩:=(by simpa only [eu] using h);refine Tree.atup h1 (by show 7 < 1000; decide) fun y hy=>?_;simp only [au,aS,or_false] at hy
  rcases hy with rfl | rfl | rfl | rfl | rfl | rfl | rfl
  ·exact Tree.scal (by exact trivial) _
  ·exact Tree.scal (by exact trivial) _
  ·exact Tree.scal (by exact trivial) _
  ·exact h2.1.tree n (by have:=h2.2; omega)
  ·exact Tree.scal (by exact trivial) _
  ·exact h3.1.tree n (by have:=h3.2; omega)
  ·exact h4.1.tree n (by have:=h4.2; omega)
 | .ife f x y,v,n + 1,h,hn=>by
  obtain ⟨t,u,u1,u2,rfl,h1,h2,⟨l,vs,rfl,g1,g2,g3⟩,l',vs',rfl,k1,k2,k3⟩:=(by simpa only [eu] using h);unfold Dd.deep at hn;refine Tree.atup h1 (by show 4 < 1000; decide) fun z hz=>?_;simp only [au,aS,or_false] at hz;obtain ⟨m,rfl⟩:∃ m,n=m + 1:=⟨n - 1,by omega⟩
  rcases hz with rfl | rfl | rfl | rfl
  ·exact Tree.scal (by exact trivial) _
  ·exact h2.1.tree _ (by have:=h2.2; omega)
  ·exact Tree.alst g1 g2 (eX.tree x vs m g3 (by omega))
  ·exact Tree.alst k1 k2 (eX.tree y vs' m k3 (by omega))
 | .fin,v,n + 1,h,hn=>by
  obtain ⟨t,rfl,h1⟩:=(by simpa only [eu] using h);refine Tree.atup h1 (by show 1 < 1000; decide) fun y hy=>?_;simp only [au,aS,or_false] at hy;rw [hy];exact Tree.scal (by exact trivial) _
theorem eX.tree {bs qs:List Str} {H:Hp}:∀ (d:Ds) (vs:List V) (n:Nat),eX bs qs H d vs->2 * d.deep + 16<=n->∀ x∈vs,Tree H n x
 | .nil,vs,n,h,hn=>by
  have e:vs=[]:=by simpa only [eX] using h
  subst e;intro x hx
  cases hx
 | .cons d r,vs,n,h,hn=>by
  obtain ⟨v,vr,rfl,h1,h2⟩:=(by simpa only [eX] using h);unfold Ds.deep at hn;intro x hx
  rcases au.mp hx with rfl | hx
  ·exact eu.tree d _ n h1 (by omega)
  ·exact eX.tree r vr n h2 (by omega) x hx
end
def zD (o:HO):Prop:=(∃ xs,o=.tup xs)\/∃ xs,o=.lst xs/\∀ (i:Int) (r:List V),xs≠.int i :: r
def dN (H H':Hp):Prop:=∀ a o,H a=some o->zD o->H' a=some o
theorem dN.same {H H':Hp} (s:bf H H'):dN H H':=fun a o e _=>s _ _ e
theorem dN.trans {H H1 H2:Hp} (a:dN H H1) (b:dN H1 H2):dN H H2:=fun c o e n=>b _ _ (a _ _ e n) n
def Kp (own:List aa) (H G:Hp):Prop:=∀ b o,H b=some o->b∉own->G b=some o
theorem Kp.refl (own:List aa) (H:Hp):Kp own H H:=fun _ _ e _=>e
theorem Kp.trans {own:List aa} {H G G':Hp} (a:Kp own H G) (b:Kp own G G'):Kp own H G':=fun c o e n=>b c o (a c o e n) n
theorem Kp.same {own:List aa} {H G:Hp} (s:bf H G):Kp own H G:=fun c o e _=>s _ _ e
theorem Kp.but {own:List aa} {H G:Hp} {p:aa} (s:But p H G) (m:p∈own):Kp own H G:=fun c o e n=>s _ _ e fun z=>n (by rw [z]; exact m)
theorem Kp.upd {own:List aa} {H:Hp} {a:aa} {o:HO} (m:a∈own):Kp own H (upd H a o):=fun c u e n=>by
 rw [aH fun z=>n (by rw [z]; exact m)];exact e
theorem Kp.keepI {own:List aa} {H G:Hp} (k:Kp own H G) (h:∀ a∈own,∃ (i:Int) (r:List V),H a=some (.lst (.int i :: r))):dN H G:=fun a o e n=>k a o e fun m=>by
 obtain ⟨i,r,q⟩:=h a m;rw [q] at e
 cases e
 rcases n with ⟨xs,n⟩ | ⟨xs,n,y⟩
 ·cases n
 ·cases n;exact y i r rfl
theorem dN.but {H H':Hp} {p:aa} (pu:dy H p) (b:But p H H'):dN H H':=Kp.keepI (own:=[p]) (Kp.but b ax) fun a m=>by
 obtain ⟨x,y,h⟩:=pu;rw [aD.mp m];exact ⟨x,_,h⟩
theorem lK (xs:List V):zD (.tup xs):=.inl ⟨xs,rfl⟩
theorem BZ (ss:List Str):zD (.lst (ss.map V.str)):=.inr ⟨_,rfl,fun i r z=>by
 cases ss with
 | nil=>cases z
 | cons x xs=>cases z⟩
theorem FmI.keepI {bs qs:List Str} {H H':Hp} (k:dN H H') {v:V} {f:Fm} (h:FmI bs qs H v f):FmI bs qs H' v f:=⟨h.1.mono fun t xs e=>k _ _ e (lK xs),h.2⟩
theorem eX.ni {bs qs:List Str} {H:Hp} {d:Ds} {vs:List V} (h:eX bs qs H d vs):zD (.lst vs):=.inr ⟨vs,rfl,fun i r z=>by
 subst z
 cases d with
 | nil =>
  simp only [eX] at h
  cases h
 | cons d r =>
  obtain ⟨v,vr,e,h1,_⟩:=(by simpa only [eX] using h)
  cases e;obtain ⟨t,e⟩:=h1.ref
  cases e⟩
def Tk (H H':Hp):Prop:=∀ (t:aa) (xs:List V),H t=some (.tup xs)->H' t=some (.tup xs)
def Nk (H H' H2:Hp):Prop:=∀ (l:aa) (xs:List V),H l=none->zD (.lst xs)->H' l=some (.lst xs)->H2 l=some (.lst xs)
def OwD (bs qs:List Str) (H H':Hp) (d:Dd) (v:V):Prop:=∀ H2,Tk H' H2->Nk H H' H2->eu bs qs H2 d v
def OwS (bs qs:List Str) (H H':Hp) (d:Ds) (vs:List V):Prop:=∀ H2,Tk H' H2->Nk H H' H2->eX bs qs H2 d vs
theorem Tk.refl (H:Hp):Tk H H:=fun _ _ e=>e
theorem Nk.refl (H H':Hp):Nk H H' H':=fun _ _ _ _ e=>e
theorem OwS.now {bs qs:List Str} {H H':Hp} {d:Ds} {v:List V} (h:OwS bs qs H H' d v):eX bs qs H' d v:=h H' (Tk.refl _) (Nk.refl _ _)
theorem dN.tk {H H':Hp} (k:dN H H'):Tk H H':=fun t xs e=>k _ _ e (lK xs)
theorem dN.nk {H H1 H' H2:Hp} (k:dN H' H1) (n:Nk H H1 H2):Nk H H' H2:=fun l xs h i e=>n l xs h i (k _ _ e i)
theorem OwS.keepI {bs qs:List Str} {H H' H1:Hp} {d:Ds} {v:List V} (h:OwS bs qs H H' d v) (k:dN H' H1):OwS bs qs H H1 d v:=fun H2 t n=>h H2 (fun a xs e=>t a xs (k.tk a xs e)) (k.nk n)
def Dm (H G:Hp):Prop:=∀ a,G a=none->H a=none
theorem Dm.same {H G:Hp} (s:bf H G):Dm H G:=fun a n=>none_of s n
theorem Dm.trans {H G G':Hp} (a:Dm H G) (b:Dm G G'):Dm H G':=fun x n=>a x (b x n)
theorem OwD.base {bs qs:List Str} {H H0 H':Hp} {d:Dd} {v:V} (h:OwD bs qs H H' d v) (s:Dm H0 H):OwD bs qs H0 H' d v:=fun H2 t n=>h H2 t fun l xs hl i e=>n l xs (s l hl) i e
theorem OwS.base {bs qs:List Str} {H H0 H':Hp} {d:Ds} {v:List V} (h:OwS bs qs H H' d v) (s:Dm H0 H):OwS bs qs H0 H' d v:=fun H2 t n=>h H2 t fun l xs hl i e=>n l xs (s l hl) i e
theorem OwD.old {bs qs:List Str} {H H':Hp} {d:Dd} {v:V} {a:aa} {o:HO} (h:OwD bs qs H H' d v) (ol:H a≠none) (nt:∀ xs,H' a≠some (.tup xs)):OwD bs qs H (upd H' a o) d v:=fun H2 t n=>h H2 (fun b xs e=>t b xs (by rw [aH (fun z=>nt xs (by rw [<- z]; exact e))]; exact e)) fun l xs hl i e=>n l xs hl i (by rw [aH (fun z=>ol (by rw [<- z]; exact hl))]; exact e)
theorem OwS.old {bs qs:List Str} {H H':Hp} {d:Ds} {v:List V} {a:aa} {o:HO} (h:OwS bs qs H H' d v) (ol:H a≠none) (nt:∀ xs,H' a≠some (.tup xs)):OwS bs qs H (upd H' a o) d v:=fun H2 t n=>h H2 (fun b xs e=>t b xs (by rw [aH (fun z=>nt xs (by rw [<- z]; exact e))]; exact e)) fun l xs hl i e=>n l xs hl i (by rw [aH (fun z=>ol (by rw [<- z]; exact hl))]; exact e)
theorem FmI.tk {bs qs:List Str} {H H2:Hp} {v:V} {F:Fm} (h:FmI bs qs H v F) (t:Tk H H2):FmI bs qs H2 v F:=⟨h.1.mono t,h.2⟩
section
variable {bs qs:List Str} {H H':Hp} {t:aa} {u u1 u2:V} {F F1 F2:Fm} {x q:Str}
theorem MH (h:H' t=some (.tup [.str "put",.str x,u])) (m:x∈bs) (f:FmI bs qs H' u F):OwD bs qs H H' (.put x F) (.ref t):=fun H2 k _=>by simp only [eu]; exact ⟨t,u,rfl,k _ _ h,m,f.tk k⟩
theorem Jk (h:H' t=some (.tup [.str "push",.str q,u])) (m:q∈qs) (f:FmI bs qs H' u F):OwD bs qs H H' (.push q F) (.ref t):=fun H2 k _=>by simp only [eu]; exact ⟨t,u,rfl,k _ _ h,m,f.tk k⟩
theorem Jl (h:H' t=some (.tup [.str "draw",.str x,u])) (m:x∈bs) (f:FmI bs qs H' u F):OwD bs qs H H' (.draw x F) (.ref t):=fun H2 k _=>by simp only [eu]; exact ⟨t,u,rfl,k _ _ h,m,f.tk k⟩
theorem MI (h:H' t=some (.tup [.str "end"])):OwD bs qs H H' .fin (.ref t):=fun H2 k _=>by simp only [eu]; exact ⟨t,rfl,k _ _ h⟩
theorem Jm {to rk:Int} {sg:Str} (h:H' t=some (.tup [.str "send",.int to,.str sg,u,.int rk,u1,u2])) (f:FmI bs qs H' u F) (f1:FmI bs qs H' u1 F1) (f2:FmI bs qs H' u2 F2):OwD bs qs H H' (.send to sg F rk F1 F2) (.ref t):=fun H2 k _=>by simp only [eu]; exact ⟨t,u,u1,u2,rfl,k _ _ h,f.tk k,f1.tk k,f2.tk k⟩
theorem Jn {l:aa} {xs:List V} {d:Ds} (h:H' t=some (.tup [.str "pull",.str q,.str x,.ref l])) (mq:q∈qs) (mx:x∈bs) (hl:H l=none) (e:H' l=some (.lst xs)) (z:xs.length < 1000) (D:OwS bs qs H H' d xs):OwD bs qs H H' (.pull q x d) (.ref t):=fun H2 k n=>by
 simp only [eu];exact ⟨t,.ref l,rfl,k _ _ h,mq,mx,l,xs,rfl,n l xs hl D.now.ni e,z,D H2 k n⟩
theorem MJ {l l':aa} {xs ys:List V} {d d':Ds} (h:H' t=some (.tup [.str "if",u,.ref l,.ref l'])) (f:FmI bs qs H' u F) (hl:H l=none) (e:H' l=some (.lst xs)) (z:xs.length < 1000) (D:OwS bs qs H H' d xs) (hl':H l'=none) (e':H' l'=some (.lst ys)) (z':ys.length < 1000) (D':OwS bs qs H H' d' ys):OwD bs qs H H' (.ife F d d') (.ref t):=fun H2 k n=>by
 simp only [eu];exact ⟨t,u,.ref l,.ref l',rfl,k _ _ h,f.tk k,⟨l,xs,rfl,n l xs hl D.now.ni e,z,D H2 k n⟩,l',ys,rfl,n l' ys hl' D'.now.ni e',z',D' H2 k n⟩
theorem Jo:OwS bs qs H H' .nil []:=fun _ _ _=>by simp only [eX]
end
def abc:Str:="abcdefghijklmnopqrstuvwxyz"
theorem B0:abc.cps.toList.length=26:=by decide +kernel
theorem xf:abc.length<=aB:=by decide +kernel
theorem MK {z:Int} (h0:0<=z) (h1:z < 26):∃ c,atI abc.cps.toList z=some c:=by
 obtain ⟨j,rfl⟩:∃ j:Nat,z=(j:Int):=⟨z.toNat,by omega⟩;have l:j < abc.cps.toList.length:=by rw [B0]; omega
 exact ⟨abc.cps.toList[j],jB (aM l)⟩
theorem zE (x y:Str):(x++y).length=x.length + y.length:=by
 show (x++y).cps.size=x.cps.size + y.cps.size;show (x.cps++y.cps).size=_;rw [Array.size_append]
theorem sJ {n:Nat} {ti:TE} {g:TG} {tc:L2.TT} {te:TE} {σ:St} {H:Hp} {Q:VK} (P:Nat->Hp->Prop) (hi:∀ R:VK,(∀ (m:Nat) (H1:Hp),P m H1->R (.int m) H1)->ti σ H R) (hb:∀ m H1,P m H1->m < 1000) (Pv:Nat->Hp->Nat->List V->Hp->Prop) (h0:∀ m H1,P m H1->Pv m H1 0 [] H1) (hl:∀ m H1,P m H1->∀ i ys H,i<=m->Pv m H1 i ys H->ys.length < aB)
  (hs:∀ m H1,P m H1->∀ i ys H,i < m->Pv m H1 i ys H->g (.int (0 + i)) (cB n none++σ) H fun σ2 H2=>σ2.drop n=σ/\tc σ2 H2 fun b H3=>if b=true then te σ2 H3 fun y H4=>Pv m H1 (i + 1) (ys++[y]) H4 else Pv m H1 (i + 1) ys H3)
  (hd:∀ m H1,P m H1->∀ ys H,Pv m H1 m ys H->∀ p,H p=none->Q (.ref p) (upd H p (.lst ys))):uS n (En (nI ti Ab)) g tc te σ H Q:=
 hi _ fun m H1 p=>⟨(m:Int),rfl,by have:=hb m H1 p; omega,by have:=hb m H1 p; omega,by
  rw [tJ];exact Fj (Pv m H1) (h0 m H1 p) (hl m H1 p) (hs m H1 p) (hd m H1 p)⟩
theorem rh {p:aa} {G:Hp} {a:aa} (h:dy G p) (n:G a=none):a≠p:=by
 obtain ⟨x,y,e⟩:=h;exact (av e n).symm
theorem sL {p:aa} {G:Hp} (h:dy G p) {a:aa} {o:HO} (n:a≠p):dy (upd G a o) p:=by
 obtain ⟨x,y,e⟩:=h;exact ⟨x,y,by rw [aH n.symm]; exact e⟩
theorem vB {K:af} {n:Nat} {ti:TE} {g:TG} {tc:L2.TT} {te:TE} {σ:St} {H:Hp} {Q:VK} {a:aa} {xs:List V} (hi:∀ R:VK,R (.ref a) H->ti σ H R) (hx:SqL K H a xs) (Pv:Nat->List V->Hp->Prop) (h0:Pv 0 [] H) (hl:∀ i ys H,i<=xs.length->Pv i ys H->SqL K H a xs/\ys.length < aB)
  (hs:∀ i x ys H,xs[i]?=some x->Pv i ys H->g x (cB n none++σ) H fun σ2 H2=>σ2.drop n=σ/\tc σ2 H2 fun b H3=>if b=true then te σ2 H3 fun y H4=>Pv (i + 1) (ys++[y]) H4 else Pv (i + 1) ys H3)
  (hd:∀ ys H,Pv xs.length ys H->∀ p,H p=none->Q (.ref p) (upd H p (.lst ys))):uS n (JL K ti) g tc te σ H Q:=
 hi _ ⟨a,rfl,⟨xs,hx⟩,wM Pv h0 hl hs hd⟩
section
variable {P:aJ} {w:bJ} {K:af} {mg:Str->Option ae} {base:cu} {f fD:aa} {fd fdD:bR}
seal PS PSs PE PA PT PW PI PG PGs PC
abbrev pD:List Str:=["_law_purse_here","_law_out_of"]
abbrev nW:List Str:=["_law_purse_here"]
abbrev pW:List Str:=["_law_purse_here"]
theorem scW:bK nW pW (aL fi):={}
def uq:Sp:=fun vs H Q _=>∃ p:aa,vs=[.ref p]/\dy H p/\∀ (r:Int) (H':Hp),-(10 ^ 15)<=r->r<=10 ^ 15->dy H' p->But p H H'->Q (.int r) H'
theorem vC (D:Df K mg "_law_worth" fi pW f fd) (DD:Df K mg "_law_draw" eg pD fD fdD) (B:Bl mg):bA P w K mg base CX0 2 f fd pW uq:=by
 have GD:bA P w K mg base CX0 1 fD fdD pD jx:=jF DD;refine D.F.ok scW (fun vs H Q E h=>?_) (fun cdv A outer s H vs Q E hr h=>?_)
 ·obtain ⟨p,rfl,_⟩:=h;rfl
 obtain ⟨p,rfl,pu,q⟩:=h;have r1:c5 1 _:=hr;refine ⟨_,aj (cS (bP e7 (aK GD r1 (by rfl) DD.m DD.F.kp DD.b .nil bj (bE (pv 0) (dC aw ai))) aw (cb _)) (ay (bM (cT jv (aK GD r1 (by rfl) DD.m DD.F.kp DD.b .nil bj (bE (pv 0) (rg (cT gK (cT qm aw (cT rK aw aw)) aw) ai))) (cT rK aw aw)))) bY)
  (ay (bM (cT jv (aK GD r1 (by rfl) DD.m DD.F.kp DD.b .nil bj (bE (pv 0) (dC aw ai))) aw))),?_⟩
 have c15:Cm 10 15:=⟨by decide,by decide,by decide⟩;have e15:(10:Int) ^ (15:Int).toNat=1000000000000000:=by decide
 have e15':(10:Int) ^ 15=1000000000000000:=by decide
 refine cm (hV ⟨_,rfl,p,6,rfl,pu,by decide,by decide,fun r G r0 r6 puG bG=>?_⟩);refine ⟨rfl,_,rfl,fV (fun _=>?_) (fun _=>?_)⟩
 ·refine fb ⟨_,rfl,_,_,rfl,rfl,c15,_,_,rfl,rfl,.inl ⟨by decide,by decide⟩,_,_,rfl,rfl,p,_,rfl,puG,by decide,by decide,fun x G2 x0 x1 pu2 b2=>⟨_,_,rfl,rfl,c15,_,_,rfl,rfl,q _ _ ?_ ?_ pu2 (bG.trans b2)⟩⟩
  ·rw [e15];omega
  ·have x1:x < 2 * (10:Int) ^ (15:Int).toNat + 1:=x1;rw [e15] at x1;rw [e15];omega
 ·dsimp only [oB];refine fb ⟨_,rfl,p,13,rfl,puG,by decide,by decide,fun x G2 x0 x1 pu2 b2=>⟨_,_,rfl,rfl,q _ _ (by omega) (by omega) pu2 (bG.trans b2)⟩⟩
end
structure Lf (H:Hp) (p lf:aa):Prop where
 pu:dy H p
 hl:∃ k:Int,H lf=some (.lst [.int k])
theorem Lf.int {H:Hp} {p lf:aa} (h:Lf H p lf):∀ a∈[p,lf],∃ (i:Int) (r:List V),H a=some (.lst (.int i :: r)):=fun a m=>by
 obtain ⟨x,y,e⟩:=h.pu;obtain ⟨z,e'⟩:=h.hl
 rcases au.mp m with rfl | m
 ·exact ⟨x,_,e⟩
 ·rw [aD.mp m];exact ⟨z,_,e'⟩
theorem Lf.ne {H:Hp} {p lf:aa} (h:Lf H p lf):lf≠p:=by
 obtain ⟨x,y,e⟩:=h.pu;obtain ⟨z,e'⟩:=h.hl;exact nF e' e (by intro q; cases q)
theorem Lf.but {H H':Hp} {p lf:aa} (h:Lf H p lf) (b:But p H H') (pu:dy H' p):Lf H' p lf:=by
 obtain ⟨z,e'⟩:=h.hl;exact ⟨pu,z,b _ _ e' h.ne⟩
theorem Lf.same {H H':Hp} {p lf:aa} (h:Lf H p lf) (s:bf H H'):Lf H' p lf:=by
 obtain ⟨z,e'⟩:=h.hl;exact ⟨h.pu.same s,z,s _ _ e'⟩
def pB:Ds->Dd->Ds
 | .nil,d=>.cons d .nil
 | .cons a r,d=>.cons a (pB r d)
theorem B1 {bs qs:List Str} {H:Hp} {d:Dd} {v:V} (hd:eu bs qs H d v):∀ (ds:Ds) (xs:List V),eX bs qs H ds xs->eX bs qs H (pB ds d) (xs++[v])
 | .nil,xs,h=>by
  have e:xs=[]:=by simpa only [eX] using h
  subst e;unfold pB;simp only [eX];exact ⟨v,[],rfl,hd,rfl⟩
 | .cons a r,xs,h=>by
  obtain ⟨u,ur,rfl,h1,h2⟩:=(by simpa only [eX] using h);unfold pB;simp only [eX];exact ⟨u,ur++[v],rfl,h1,B1 hd r ur h2⟩
theorem B2 {m:Int} {d:Dd} (hd:d.toOk m):∀ ds:Ds,ds.toOk m->(pB ds d).toOk m
 | .nil,_=>⟨hd,trivial⟩
 | .cons a r,h=>⟨h.1,B2 hd r h.2⟩
theorem xg (d:Dd):∀ ds:Ds,(pB ds d).deep=max ds.deep d.deep
 | .nil=>by
  show max d.deep 0=max 0 d.deep;exact Nat.max_comm _ _
 | .cons a r=>by
  show max a.deep (pB r d).deep=max (max a.deep r.deep) d.deep;rw [xg d r];exact (Nat.max_assoc _ _ _).symm
theorem xh (d:Dd):∀ ds:Ds,(pB ds d).size=ds.size + d.size
 | .nil=>by
  show d.size + 0=0 + d.size;omega
 | .cons a r=>by
  show a.size + (pB r d).size=a.size + r.size + d.size;rw [xh d r];omega
theorem GX {bs qs:List Str} {H H':Hp} {ds:Ds} {xs:List V} {d:Dd} {v:V} (a:OwS bs qs H H' ds xs) (b:OwD bs qs H H' d v):OwS bs qs H H' (pB ds d) (xs++[v]):=fun H2 k n=>B1 (b H2 k n) ds xs (a H2 k n)
theorem Jp:∀ n,1<=ddz n
 | 0=>aC _
 | n + 1=>by
  show 1<=1 + 6 * ddz n;omega
theorem Kp.dm {own:List aa} {H G:Hp} (k:Kp own H G) (h:∀ a∈own,∃ o,G a=some o):Dm H G:=fun a n=>by
 cases e:H a with
 | none=>rfl
 | some o =>
  by_cases m:a∈own
  ·obtain ⟨u,q⟩:=h a m;rw [q] at n
   cases n
  ·rw [k a o e m] at n
   cases n
theorem Lf.there {H:Hp} {p lf:aa} (h:Lf H p lf):∀ a∈[p,lf],∃ o,H a=some o:=fun a m=>by
 obtain ⟨i,r,e⟩:=h.int a m;exact ⟨_,e⟩
def HsO (bs qs:List Str) (H H':Hp) (v:V) (q:Str×Ds):Prop:=∃ t l xs,v=.ref t/\H' t=some (.tup [.str q.1,.ref l])/\H l=none/\H' l=some (.lst xs)/\xs.length < 1000/\OwS bs qs H H' q.2 xs
theorem HsO.keepI {bs qs:List Str} {H H' H1:Hp} {v:V} {q:Str×Ds} (k:dN H' H1) (h:HsO bs qs H H' v q):HsO bs qs H H1 v q:=by
 obtain ⟨t,l,xs,e,h1,h2,h3,h4,h5⟩:=h;exact ⟨t,l,xs,e,k _ _ h1 (lK _),h2,k _ _ h3 h5.now.ni,h4,h5.keepI k⟩
theorem HsO.old {bs qs:List Str} {H H':Hp} {v:V} {q:Str×Ds} {a:aa} {o:HO} (h:HsO bs qs H H' v q) (ol:H a≠none) (nt:∀ xs,H' a≠some (.tup xs)):HsO bs qs H (upd H' a o) v q:=by
 obtain ⟨t,l,xs,e,h1,h2,h3,h4,h5⟩:=h;exact ⟨t,l,xs,e,aR h1 (fun z=>nt _ (by rw [<- z]; exact h1)),h2,aR h3 (fun z=>ol (by rw [<- z]; exact h2)),h4,h5.old ol nt⟩
theorem HsO.base {bs qs:List Str} {H H0 H':Hp} {v:V} {q:Str×Ds} (h:HsO bs qs H H' v q) (s:Dm H0 H):HsO bs qs H0 H' v q:=by
 obtain ⟨t,l,xs,e,h1,h2,h3,h4,h5⟩:=h;exact ⟨t,l,xs,e,h1,s l h2,h3,h4,h5.base s⟩
structure Mch (m:Int) (H H':Hp) (t:aa) (nm:Str) (bs qs:List Str) (ds:List Int) (hs:List (Str×Ds)) (ps:List (Str×Int)):Prop where
 ex:∃ (bl ql dl hl:aa) (vb hv:List V),H' t=some (.tup [.str nm,.ref bl,.ref ql,.ref dl,.ref hl])/\H' bl=some (.lst vb)/\gz H' ps vb/\H' ql=some (.lst (qs.map V.str))/\H' dl=some (.lst (ds.map V.int))/\H' hl=some (.lst hv)/\aP (HsO bs qs H H') hv hs/\H bl=none/\H ql=none/\H dl=none/\H hl=none
 kb:ps.map (·.1)=bs
 nb:bs.Nodup
 nq:qs.Nodup
 lb:bs.length<=9
 lq:qs.length<=9
 ld:ds.length<=100
 lh:hs.length<=9
 wb:∀ q∈ps,Wo q.2
 hk:∀ q∈hs,q.2.toOk m/\q.2.deep<=4/\q.2.size<=3 * ddz 4
def MIn (m:Int) (H H':Hp) (v:V) (M:MD):Prop:=∃ t,v=.ref t/\Mch m H H' t M.nm M.bs M.qs M.ds M.hs M.ps
theorem Mch.but {m:Int} {H H' H1:Hp} {t p:aa} {nm:Str} {bs qs:List Str} {ds:List Int} {hs:List (Str×Ds)} {ps:List (Str×Int)} (pu0:dy H p) (pu:dy H' p) (b:But p H' H1) (h:Mch m H H' t nm bs qs ds hs ps):Mch m H H1 t nm bs qs ds hs ps:=by
 have k:=dN.but pu b;have np:∀ {a:aa},H a=none->a≠p:=fun {a} e z=>by
  obtain ⟨x,y,q⟩:=pu0;rw [z,q] at e
  cases e
 obtain ⟨⟨bl,ql,dl,hl,vb,hv,h1,h2,h3,h4,h5,h6,h7,f1,f2,f3,f4⟩,kb,nb,nq,lb,lq,ld,lh,wb,hk⟩:=h;exact ⟨⟨bl,ql,dl,hl,vb,hv,k _ _ h1 (lK _),b _ _ h2 (np f1),gz.tups (fun a xs e=>k _ _ e (lK xs)) h3,b _ _ h4 (np f2),b _ _ h5 (np f3),b _ _ h6 (np f4),Paired.mono (fun v q z=>HsO.keepI k z) h7,f1,f2,f3,f4⟩,kb,nb,nq,lb,lq,ld,lh,wb,hk⟩
theorem Mch.same {m:Int} {H H' H1:Hp} {t:aa} {nm:Str} {bs qs:List Str} {ds:List Int} {hs:List (Str×Ds)} {ps:List (Str×Int)} (b:bf H' H1) (h:Mch m H H' t nm bs qs ds hs ps):Mch m H H1 t nm bs qs ds hs ps:=by
 obtain ⟨⟨bl,ql,dl,hl,vb,hv,h1,h2,h3,h4,h5,h6,h7,f1,f2,f3,f4⟩,kb,nb,nq,lb,lq,ld,lh,wb,hk⟩:=h;exact ⟨⟨bl,ql,dl,hl,vb,hv,b _ _ h1,b _ _ h2,gz.same b h3,b _ _ h4,b _ _ h5,b _ _ h6,Paired.mono (fun v q z=>HsO.keepI (dN.same b) z) h7,f1,f2,f3,f4⟩,kb,nb,nq,lb,lq,ld,lh,wb,hk⟩
theorem Mch.base {m:Int} {H0 H H':Hp} {t:aa} {nm:Str} {bs qs:List Str} {ds:List Int} {hs:List (Str×Ds)} {ps:List (Str×Int)} (s:Dm H0 H) (h:Mch m H H' t nm bs qs ds hs ps):Mch m H0 H' t nm bs qs ds hs ps:=by
 obtain ⟨⟨bl,ql,dl,hl,vb,hv,h1,h2,h3,h4,h5,h6,h7,f1,f2,f3,f4⟩,kb,nb,nq,lb,lq,ld,lh,wb,hk⟩:=h;exact ⟨⟨bl,ql,dl,hl,vb,hv,h1,h2,h3,h4,h5,h6,Paired.mono (fun v q z=>HsO.base z s) h7,s _ f1,s _ f2,s _ f3,s _ f4⟩,kb,nb,nq,lb,lq,ld,lh,wb,hk⟩
theorem But.dm {p:aa} {H G:Hp} (b:But p H G) (pu:dy G p):Dm H G:=fun a n=>by
 cases e:H a with
 | none=>rfl
 | some o =>
  by_cases c:a=p
  ·obtain ⟨x,y,q⟩:=pu;rw [c,q] at n
   cases n
  ·rw [b a o e c] at n
   cases n
theorem rj {H:Hp}:∀ {ps:List (Str×Int)} {vs:List V},gz H ps vs->aP (fun v (x:Str)=>∃ a n,v=.ref a/\H a=some (.tup [.str x,n])) vs (ps.map (·.1))
 | [],_,h=>by
  cases h;exact .nil
 | p :: ps,_,h=>by
  cases h with
  | cons a b =>
   obtain ⟨t,e,h⟩:=a;exact .cons ⟨t,_,e,h⟩ (rj (ps:=ps) b)
theorem nA {α:Type} {R:V->α->Prop}:∀ {xs:List V} {as:List α},aP R xs as->∀ x∈xs,∃ a∈as,R x a
 | _,_,.nil,_,h=>by cases h
 | _,_,.cons a b,x,h=>by
  rcases au.mp h with z | z
  ·exact ⟨_,ax,by rw [z]; exact a⟩
  ·obtain ⟨c,hc,r⟩:=nA b x z;exact ⟨c,ag _ hc,r⟩
theorem MIn.moI {m:Int} {H H':Hp} {v:V} {M:MD} (h:MIn m H H' v M):MoI m H' v M:=by
 obtain ⟨t,rfl,⟨bl,ql,dl,hl,vb,hv,h1,h2,h3,h4,h5,h6,h7,f1,f2,f3,f4⟩,kb,nb,nq,lb,lq,ld,lh,wb,hk⟩:=h;refine ⟨⟨t,bl,ql,dl,hl,_,vb,hv,rfl,h1,h2,by rw [<- kb]; exact rj h3,h4,h5,h6,Paired.mono (fun v q z=>?_) h7⟩,⟨t,bl,ql,_,_,_,vb,rfl,h1,h2,h3,h4⟩,kb,nb,nq,lb,lq,ld,lh,wb,hk⟩;obtain ⟨u,l,xs,e,g1,g2,g3,g4,g5⟩:=z;exact ⟨u,.ref l,e,g1,l,xs,rfl,g3,g4,g5.now⟩
theorem MIn.tree {m:Int} {H H':Hp} {v:V} {M:MD} (h:MIn m H H' v M):Tree H' 28 v:=by
 obtain ⟨t,rfl,⟨bl,ql,dl,hl,vb,hv,h1,h2,h3,h4,h5,h6,h7,f1,f2,f3,f4⟩,kb,nb,nq,lb,lq,ld,lh,wb,hk⟩:=h;have lps:M.ps.length<=9:=by
  have:=congrArg ja kb;rw [ar] at this;omega
 refine Tree.atup h1 (by show 5 < 1000; decide) fun y hy=>?_;simp only [au,aS,or_false] at hy
 rcases hy with rfl | rfl | rfl | rfl | rfl
 ·exact Tree.scal (by exact trivial) _
 ·exact Tree.alst h2 (by rw [<- h3.length]; omega) fun z hz=>h3.tree (n:=25) z hz
 ·refine Tree.alst h4 (by rw [ar]; omega) fun z hz=>?_;obtain ⟨x,_,rfl⟩:=cC.mp hz;exact Tree.scal (by exact trivial) _
 ·refine Tree.alst h5 (by rw [ar]; omega) fun z hz=>?_;obtain ⟨x,_,rfl⟩:=cC.mp hz;exact Tree.scal (by exact trivial) _
 ·refine Tree.alst h6 (by rw [aZ h7]; omega) fun z hz=>?_;obtain ⟨q,hq,u,l,xs,rfl,g1,g2,g3,g4,g5⟩:=nA h7 z hz;refine Tree.atup g1 (by show 2 < 1000; decide) fun y hy=>?_;simp only [au,aS,or_false] at hy
  rcases hy with rfl | rfl
  ·exact Tree.scal (by exact trivial) _
  ·exact Tree.alst g3 g4 fun z hz=>eX.tree q.2 xs 24 g5.now (by have:=(hk q hq).2.1; omega) z hz
theorem AN.alike {H H':Hp} {v v':V} {M:MD} (h:AN H v M) (al:Alike H H' 28 v v'):AN H' v' M:=by
 obtain ⟨t,bl,ql,n0,x3,x4,vb,rfl,h1,h2,h3,h4⟩:=h;obtain ⟨t',ys2,rfl,al2,p3⟩:=rY h1 al;obtain ⟨z0,yr,rfl,a0,p3⟩:=dh p3;obtain ⟨z1,yr,rfl,a1,p3⟩:=dh p3;obtain ⟨z2,yr,rfl,a2,p3⟩:=dh p3;obtain ⟨z3,yr,rfl,a3,p3⟩:=dh p3;obtain ⟨z4,yr,rfl,a4,p3⟩:=dh p3;obtain rfl:=mh p3;obtain ⟨b',vb',rfl,c1,d1⟩:=lZ h2 a1;obtain ⟨q',vq,rfl,c2,d2⟩:=lZ h4 a2;rw [iz d2 (by intro x hx; obtain ⟨z,_,rfl⟩:=cC.mp hx; exact trivial)] at c2;exact ⟨t',b',q',z0,z3,z4,vb',rfl,al2,c1,h3.alike d1,c2⟩
theorem B3 {m:Int} {H0 H:Hp} {ml:aa} {xs:List V} {Ms:List MD} (h:H ml=some (.lst xs)) (p:aP (MIn m H0 H) xs Ms) (l:Ms.length < 1000):Tree H 29 (.ref ml):=
 Tree.alst h (by rw [aZ p]; exact l) fun x hx=>by
  obtain ⟨M,_,z⟩:=nA p x hx;exact z.tree
theorem Jq {m:Int} {H0 H H2:Hp} {ml:aa} {xs:List V} {Ms:List MD} {v':V} (h:H ml=some (.lst xs)) (p:aP (MIn m H0 H) xs Ms) (al:Alike H H2 29 (.ref ml) v'):∃ ml',v'=.ref ml'/\ye m H2 ml' Ms:=by
 obtain ⟨ml',ys,rfl,h1,p1⟩:=lZ h al;refine ⟨ml',rfl,ys,h1,pQ (R:=MIn m H0 H) (S:=Alike H H2 28) (T:=Tree H 28) (fun v M v' a b c=>?_) p p1 fun x hx=>?_⟩
 ·have z:=a.moI;exact ⟨z.ma.alike c b,z.fs.alike b,z.kb,z.nb,z.nq,z.lb,z.lq,z.ld,z.lh,z.wb,z.hk⟩
 ·obtain ⟨M,_,z⟩:=nA p x hx;exact z.tree
theorem ML:abc.cps.toList.Nodup:=by decide +kernel
def GN (b:Nat) (ss:List Str):Prop:=∀ i s,ss[i]?=some s->∃ c,abc.cps.toList[b + i]?=some c/\s.cps.toList[0]?=some c
theorem Jr {i j:Nat} {c} (hi:abc.cps.toList[i]?=some c) (hj:abc.cps.toList[j]?=some c):i=j:=by
 have li:=(aE.mp hi).1;exact (List.getElem?_inj li ML).mp (hi.trans hj.symm)
theorem Js {n:Nat} (h1:n < 26):∃ c,abc.cps.toList[n]?=some c/\atI abc.cps.toList (n:Int)=some c:=by
 have l:n < abc.cps.toList.length:=by rw [B0]; omega
 exact ⟨abc.cps.toList[n],aM l,jB (aM l)⟩
theorem GN.nodup {b:Nat} {ss:List Str} (h:GN b ss):ss.Nodup:=by
 refine c9.mpr fun i j li lj hij e=>?_;obtain ⟨c,a1,a2⟩:=h i _ (aM li);obtain ⟨d,b1,b2⟩:=h j _ (aM lj);rw [<- e,a2] at b2
 cases b2;have z:=Jr a1 b1;omega
theorem GN.snoc {b:Nat} {ss:List Str} {s:Str} {c} (h:GN b ss) (h2:abc.cps.toList[b + ss.length]?=some c) (h3:s.cps.toList[0]?=some c):GN b (ss++[s]):=by
 intro i x e
 by_cases hi:i < ss.length
 ·rw [ff hi] at e;exact h i x e
 ·rw [dX (by omega)] at e;obtain ⟨il,_⟩:=aE.mp e;have il:i - ss.length < 1:=il;have hi':i=ss.length:=by omega
  subst hi';rw [tQ] at e
  cases e;exact ⟨c,h2,h3⟩
theorem yk {x y:Str} {c} (h:x.cps.toList[0]?=some c):(x++y).cps.toList[0]?=some c:=by
 show (x.cps++y.cps).toList[0]?=some c;rw [Array.toList_append,ff (aE.mp h).1];exact h
section
variable {P:aJ} {w:bJ} {K:af} {mg:Str->Option ae} {base:cu} {f fD fNm:aa} {fd fdD fdNm:bR}
seal PS PSs PE PA PT PW PI PG PGs PC
abbrev nNm:List Str:=["_law_purse_here","_law_long","_law_word","_law_k"]
abbrev pNm:List Str:=["_law_purse_here","_law_long"]
theorem Jt:bK nNm pNm (aL m9):={}
inductive Ky (vs:List V) (H:Hp) (Q:VK) (_e:XK):Prop where
 | mk (p:aa) (n:Int) (_:vs=[.ref p,.int n]) (_:dy H p) (_:0 < n) (_:n<=9) (_:∀ (s:Str) (H':Hp),s.length<=9->dy H' p->But p H H'->Q (.str s) H'):Ky vs H Q _e
def spNm:Sp:=fun vs H Q _e=>Ky vs H Q _e
theorem ok_nm (D:Df K mg "_law_name" m9 pNm f fd) (DD:Df K mg "_law_draw" eg pD fD fdD) (B:Bl mg):bA P w K mg base CX0 2 f fd pNm spNm:=by
 have GD:bA P w K mg base CX0 1 fD fdD pD jx:=jF DD;refine D.F.ok Jt (fun vs H Q E h=>?_) (fun cdv A outer s H vs Q E hr h=>?_)
 ·obtain ⟨p,n,rfl,_⟩:=h;rfl
 obtain ⟨p,n,rfl,pu,n0,n9,q⟩:=h;have r1:c5 1 _:=hr;refine ⟨_,aj (bC (i:=2) Jt.nd rfl (Or.inl rfl) bX)
  (aj (i5 cR rfl (iU (by rfl) B.range (rg (cT gK aw (aK GD r1 (by rfl) DD.m DD.F.kp DD.b .nil bj (bE (pv 0) (bE (pv 1) ai)))) ai)) (dQ (i:=3) Jt.nd rfl (Or.inl rfl)) (ay (bC (i:=2) Jt.nd rfl (Or.inl rfl) (cT uI (pv 2) (bU EF bX (aK GD r1 (by rfl) DD.m DD.F.kp DD.b .nil bj (bE (pv 0) (dC aw ai))) (fun _ _=>rfl))))))
  (ay (bM (pv 2)))),?_⟩
 have big:=dY;refine cm (cW (bN ?_));dsimp only;refine cm ⟨_,rfl,_,rfl,p,n,rfl,pu,by omega,by omega,fun r G r0 r1' puG bG=>⟨_,_,rfl,rfl,1 + r,rfl,by omega,by omega,?_⟩⟩;refine pG (n:=(1 + r).toNat) (fun i σ G=>∃ (w:Str) (u:Option V),σ=[some (.ref p),some (.int n),some (.str w),u]/\w.length=i/\dy G p/\But p H G) ⟨_,_,rfl,rfl,puG,bG⟩ ?_ ?_
 ·rintro i σ G hi ⟨w,u,rfl,hw,puG,bG⟩;refine cW ⟨_,rfl,_,rfl,p,26,rfl,puG,by decide,by decide,fun x G2 x0 x1 pu2 b2=>?_⟩;obtain ⟨c,hc⟩:=MK x0 x1;refine ⟨abc,_,c,rfl,rfl,xf,hc,w,⟨#[c]⟩,rfl,rfl,?_,?_⟩
  ·show w.length + 1<=aB;omega
  ·exact ⟨_,_,rfl,by rw [zE,hw]; rfl,pu2,bG.trans b2⟩
 ·rintro σ G ⟨w,u,rfl,hw,puG,bG⟩;dsimp only;exact fb ⟨_,rfl,q w G (by omega) puG bG⟩
abbrev nN:List Str:=["_law_purse_here","_law_many","_law_first"]
abbrev pN:List Str:=["_law_purse_here","_law_many","_law_first"]
theorem scN:bK nN pN (aL jM):={}
theorem ndN:((["_law_k"]:List Str)++nN).Nodup:=by decide +kernel
inductive zF (vs:List V) (H:Hp) (Q:VK) (_e:XK):Prop where
 | mk (p:aa) (n fs:Nat) (_:vs=[.ref p,.int n,.int fs]) (_:dy H p) (_:n<=9) (_:fs + n<=26) (_:∀ (l:aa) (ss:List Str) (H':Hp),H l=none->H' l=some (.lst (ss.map V.str))->ss.length=n->ss.Nodup->dy H' p->But p H H'->Q (.ref l) H'):zF vs H Q _e
def B4:Sp:=fun vs H Q _e=>zF vs H Q _e
theorem GY (D:Df K mg "_law_names" jM pN f fd) (DNm:Df K mg "_law_name" m9 pNm fNm fdNm) (DD:Df K mg "_law_draw" eg pD fD fdD) (B:Bl mg):bA P w K mg base CX0 3 f fd pN B4:=by
 have GNm:bA P w K mg base CX0 2 fNm fdNm pNm spNm:=ok_nm DNm DD B;refine D.F.ok scN (fun vs H Q E h=>?_) (fun cdv A outer s H vs Q E hr h=>?_)
 ·obtain ⟨p,n,fs,rfl,_⟩:=h;rfl
 obtain ⟨p,n,fs,rfl,pu,n9,f26,q⟩:=h;have r2:c5 2 _:=hr;refine ⟨_,ay (bM (mU ["_law_k"] (iF.open (NN:=nN) (N:=nN) (sc:=aL jM) rfl rfl (by decide +kernel) rfl (by decide +kernel) (by decide +kernel) rfl (by decide +kernel)) rfl (iU (by rfl) B.range (bE (pv 1) ai)) (fun _ _ _ _=>dQ (i:=0) ndN rfl (Or.inl rfl)) (fun _ _ _ _=>j0) (fun _ _ _ _=>cT uI (bU EF bX (cT gK (pv 3) (pv 0)) (fun _ _=>rfl)) (aK GNm r2 (by rfl) DNm.m DNm.F.kp DNm.b .nil bj (bE (pv 1) (dC aw ai)))))),?_⟩;have big:=dY;refine fb ?_;refine sJ (fun m G'=>m=n/\G'=H) (fun R hR=>⟨_,rfl,hR n H ⟨rfl,rfl⟩⟩) (fun m G' h=>by omega) (fun m G' i ys G=>∃ ss:List Str,ys=ss.map V.str/\ss.length=i/\GN fs ss/\dy G p/\But p H G) ?_ ?_ ?_ ?_
 ·rintro m G' ⟨rfl,rfl⟩;exact ⟨[],rfl,rfl,(fun i x e=>by cases e),pu,But.refl _ _⟩
 ·rintro m G' ⟨rfl,rfl⟩ i ys G hi ⟨ss,rfl,hs,_⟩;rw [ar];omega
 ·rintro m G' ⟨rfl,rfl⟩ i ys G hi ⟨ss,rfl,hs,gn,puG,bG⟩;refine bN ⟨rfl,?_⟩;unfold vU;refine iL ?_;obtain ⟨c,hc0,hc⟩:=Js (n:=fs + i) (by omega);refine ⟨_,rfl,_,rfl,_,_,rfl,rfl,abc,_,c,rfl,rfl,xf,(by rw [show (fs:Int) + (0 + (i:Int))=((fs + i:Nat):Int) by omega]; exact hc),_,rfl,p,5,rfl,puG,by decide,by decide,fun s' G2 ls pu2 b2=>⟨_,_,rfl,rfl,?_,?_⟩⟩
  ·show 1 + s'.length<=aB;omega
  ·exact ⟨ss++[⟨#[c]⟩++s'],by rw [cg]; rfl,by rw [aA,hs]; rfl,gn.snoc (c:=c) (by rw [hs]; exact hc0) (yk rfl),pu2,bG.trans b2⟩
 ·rintro m G' ⟨rfl,rfl⟩ ys G ⟨ss,rfl,hs,gn,puG,bG⟩ l hl;have st:=aF hl (.lst (ss.map V.str));exact q l ss _ (bG.dm puG l hl) ah hs gn.nodup (puG.same st) (bG.same st)
end
theorem rp {H:Hp} {p lb:aa} {bs:List Str} (pu:dy H p) (hb:H lb=some (.lst (bs.map V.str))):lb≠p:=by
 obtain ⟨x,y,e⟩:=pu;refine nF hb e fun z=>?_
 cases bs with
 | nil=>cases z
 | cons b r=>cases z
theorem jR {bs:List Str} {r:Int} (h0:0<=r) (h1:r < bs.length):∃ x,atI (bs.map V.str) r=some (.str x)/\x∈bs:=by
 obtain ⟨j,rfl⟩:∃ j:Nat,r=(j:Int):=⟨r.toNat,by omega⟩;have lt:j < bs.length:=by omega
 exact ⟨bs[j],jB (by rw [cI,aM lt]; rfl),uh lt⟩
theorem iZ.but {bs qs:List Str} {H H':Hp} {p:aa} {v:V} {f:Fm} (pu:dy H p) (b:But p H H') (h:iZ bs qs H v f):iZ bs qs H' v f:=h.mono fun t xs e=>dN.but pu b _ _ e (lK xs)
theorem sO {n:Int} (h:-1000000<=n/\n<=1000000):Wo n:=by
 have e:(10:Int) ^ 15=1000000000000000:=by decide
 unfold Wo;omega
def yl:List Str:=["plus","less","times","part","rest","below","same","plus"]
theorem GZ {r:Int} (h0:0<=r) (h1:r < 8):∃ x,atI (yl.map V.str) r=some (.str x)/\x∈Br:=by
 obtain ⟨x,hx,m⟩:=jR (bs:=yl) h0 h1;refine ⟨x,hx,?_⟩;have:∀ y∈yl,y∈Br:=by decide +kernel
 exact this x m
theorem jj {H:Hp} {a:aa} (_h:H a=none) (o:HO):upd H a o a=some o:=ah
theorem wc {t u:TS} {D:lL} {σ:St} {H:Hp} (I:St->Hp->Prop) (hu:∀ σ' H',I σ' H'->u D σ' H') (h:∀ N:St->Hp->Prop,(∀ σ' H',I σ' H'->N σ' H')->t {D with nx:=N} σ H):K6 t u D σ H:=h _ hu
theorem pU {xs:List V} (h:(!xs.isEmpty)=true):0 < xs.length:=by
 cases xs with
 | nil=>cases h
 | cons y ys=>exact o7 _
theorem ym {x y:V} {b:Bool}:atI [x,y] (if b=true then 1 else 0)=some (if b=true then y else x):=by
 cases b <;> rfl
section
variable {P:aJ} {w:bJ} {K:af} {mg:Str->Option ae} {base:cu} {f fD fW:aa} {fd fdD fdW:bR} {bs qs:List Str}
seal PS PSs PE PA PT PW PI PG PGs PC
abbrev nFo:List Str:=["_law_purse_here","_law_low","_law_boxes","_law_queues","_law_pick","_law_word","_law_one"]
abbrev pFo:List Str:=["_law_purse_here","_law_low","_law_boxes","_law_queues"]
theorem Ju:bK nFo pFo (aL gD):={}
inductive Kz (bs qs:List Str) (n:Nat) (vs:List V) (H:Hp) (Q:VK) (_e:XK):Prop where
 | mk (p lb lq:aa) (d:Nat) (_:vs=[.ref p,.int d,.ref lb,.ref lq]) (_:d < n) (_:dy H p) (_:H lb=some (.lst (bs.map V.str))) (_:H lq=some (.lst (qs.map V.str))) (_:bs.length<=9) (_:qs.length<=9) (_:∀ (v:V) (F:Fm) (H':Hp),iZ bs qs H' v F->F.depth<=d + 1->dy H' p->But p H H'->Q v H'):Kz bs qs n vs H Q _e
def Ha (bs qs:List Str) (n:Nat):Sp:=fun vs H Q _e=>Kz bs qs n vs H Q _e
theorem Jv {n:Nat} (D:Df K mg "_law_formula" gD pFo f fd) (DD:Df K mg "_law_draw" eg pD fD fdD) (DW:Df K mg "_law_worth" fi pW fW fdW) (B:Bl mg) (GR:bA P w K mg base CX0 (n + 2) f fd pFo (Ha bs qs n)):bA P w K mg base CX0 (n + 3) f fd pFo (Ha bs qs (n + 1)):=by
 have GD:bA P w K mg base CX0 1 fD fdD pD jx:=jF DD;have GW:bA P w K mg base CX0 2 fW fdW pW uq:=vC DW DD B;refine D.F.ok Ju (fun vs H Q E h=>?_) (fun cdv A outer s H vs Q E hr h=>?_)
 ·obtain ⟨p,lb,lq,d,rfl,_⟩:=h;rfl
 obtain ⟨p,lb,lq,d,rfl,dn,pu,hb,hq,lbs,lqs,k⟩:=h;have h50:=Iu hr;have r1:c5 1 _:=hr.mono (by omega);have r2:c5 2 _:=hr.mono (by omega);refine ⟨_,aj (bC (i:=4) Ju.nd rfl (Or.inl rfl) (aK GD r1 (by rfl) DD.m DD.F.kp DD.b .nil bj (bE (pv 0) (qC (bU dI (eS (dC aw (dC aw ai))) (gL pH (by rfl) B.int boot_int (ao (qJ uE (pv 1) aw (cb _)) ai)) (fun _ _=>rfl)) ai))))
  (aj (cS (bP p7 (pv 4) aw (cb _)) (ay (bM (dR (dC bX (iN (aK GW r2 (by rfl) DW.m DW.F.kp DW.b .nil bj (bE (pv 0) ai)) ai))))) bY)
  (aj (cS ((oA (bP e7 (pv 4) aw (cb _)) (mC (bP (xV h50) (pv 2) (eS ai) (cb _)))).pt) (ay (bM (dR (dC bX (qC (bU dI (pv 2) (aK GD r1 (by rfl) DD.m DD.F.kp DD.b .nil bj (bE (pv 0) (iN (cL (fg K (by rfl)) (by rfl) B.len cA (bE (pv 2) ai)) ai))) (fun _ _=>rfl)) ai))))) bY)
  (aj (cS ((oA (bP e7 (pv 4) aw (cb _)) (mC (bP (xV h50) (pv 3) (eS ai) (cb _)))).pt) (ay (bM (dR (dC bX (qC (bU dI (pv 3) (aK GD r1 (by rfl) DD.m DD.F.kp DD.b .nil bj (bE (pv 0) (iN (cL (fg K (by rfl)) (by rfl) B.len cA (bE (pv 3) ai)) ai))) (fun _ _=>rfl)) ai))))) bY)
  (aj (cS (bP e7 (pv 4) aw (cb _)) (ay (bM (dR (dC bX ai)))) bY)
  (aj (cS (bP p7 (pv 4) aw (cb _)) (ay (bM (dR (dC bX (iN (aK GD r1 (by rfl) DD.m DD.F.kp DD.b .nil bj (bE (pv 0) (dC aw ai))) ai))))) bY)
  (aj (bC (i:=5) Ju.nd rfl (Or.inl rfl) (bU dI (eS (dC bX (dC bX (dC bX (dC bX (dC bX (dC bX (dC bX (dC bX ai))))))))) (aK GD r1 (by rfl) DD.m DD.F.kp DD.b .nil bj (bE (pv 0) (dC aw ai))) (fun _ _=>rfl)))
  (aj (bC (i:=6) Ju.nd rfl (Or.inl rfl) (aK GR hr (by rfl) D.m D.F.kp D.b .nil bj (bE (pv 0) (rg (cT jv (pv 1) aw) (bE (pv 2) (bE (pv 3) ai))))))
  (ay (bM (dR (bE (pv 5) (bE (pv 6) (iN (aK GR hr (by rfl) D.m D.F.kp D.b .nil bj (bE (pv 0) (rg (cT jv (pv 1) aw) (bE (pv 2) (bE (pv 3) ai))))) ai))))))))))))),?_⟩
 have big:=dY;have nb:=rp pu hb;have nq:=rp pu hq;refine cm (cW ⟨_,rfl,lt2,fun l0 hl0=>?_⟩);have s0:=aF hl0 (.lst [.int 6,.int 10]);refine ⟨_,rfl,_,_,rfl,rfl,.inr ⟨_,rfl,l0,_,_,_,rfl,rfl,SqL.of ah,ym,?_⟩⟩;obtain ⟨m,em,m6,md⟩:∃ m:Int,(if decide ((d:Int) > 0)=true then V.int 10 else V.int 6)=.int m/\(0 < m/\m < 100)/\(d=0->m=6):=by
  by_cases c:(d:Int) > 0
  ·rw [decide_eq_true c];exact ⟨10,rfl,by decide,fun z=>by omega⟩
  ·rw [decide_eq_false c];exact ⟨6,rfl,by decide,fun _=>rfl⟩
 rw [em];refine ⟨p,m,rfl,pu.same s0,m6.1,by omega,fun pk G pk0 pk1 puG bG=>bN ?_⟩;have bG:=(But.same (But.refl p H) s0).trans bG;clear s0 hl0;dsimp only;have hbG:∀ {G:Hp},But p H G->G lb=some (.lst (bs.map V.str)):=fun b=>b _ _ hb nb;have hqG:∀ {G:Hp},But p H G->G lq=some (.lst (qs.map V.str)):=fun b=>b _ _ hq nq;refine cm (hV ⟨_,rfl,_,_,rfl,rfl,_,rfl,fV (fun _=>?_) (fun _=>?_)⟩)
 ·refine fb ⟨_,rfl,p,rfl,puG,fun r G2 r0 r1' pu2 b2=>⟨lt2,fun t ht=>?_⟩⟩;have st:=aF ht (.tup [.str "number",.int r]);exact k _ (.num r) _ (.num ah ⟨r0,r1'⟩) (by show 1<=d + 1; omega) (pu2.same st) ((bG.trans b2).same st)
 dsimp only [oB];refine wc (fun σ' G=>σ'=[some (.ref p),some (.int d),some (.ref lb),some (.ref lq),some (.int pk),none,none]/\dy G p/\But p H G) ?_ ?_
 rotate_left
 ·intro N hN;refine hV ⟨_,rfl,rfl,_,rfl,fV (fun _=>?_) (fun _=>fZ (hN _ _ ⟨rfl,puG,bG⟩))⟩;refine ⟨_,rfl,by show 0<=aB; omega,fun e0 he0=>?_⟩;have u0:=aF he0 (.lst []);refine ⟨lb,e0,_,rfl,rfl,u0 _ _ (hbG bG),ah,_,rfl,fV (fun ne=>?_) (fun _=>hN _ _ ⟨rfl,puG.same u0,bG.same u0⟩)⟩;have l0:=pU ne;rw [ar] at l0;refine fb ⟨_,rfl,_,rfl,_,rfl,lb,_,rfl,.inl (SqL.of (u0 _ _ (hbG bG))),p,_,rfl,puG.same u0,by rw [ar]; omega,by rw [ar]; omega,fun r G2 r0 r1' pu2 b2=>?_⟩;rw [ar] at r1';obtain ⟨x,hx,mx⟩:=jR r0 r1';have b2':=(bG.same u0).trans b2;refine ⟨lb,_,_,_,rfl,rfl,SqL.of (hbG b2'),hx,lt2,fun t ht=>?_⟩;have st:=aF ht (.tup [.str "box",.str x]);exact k _ (.box x) _ (.box ah mx) (by show 1<=d + 1; omega) (pu2.same st) (b2'.same st)
 rintro _ G1 ⟨rfl,pu1,b1⟩;refine wc (fun σ' G=>σ'=[some (.ref p),some (.int d),some (.ref lb),some (.ref lq),some (.int pk),none,none]/\dy G p/\But p H G) ?_ ?_
 rotate_left
 ·intro N hN;refine hV ⟨_,rfl,rfl,_,rfl,fV (fun _=>?_) (fun _=>fZ (hN _ _ ⟨rfl,pu1,b1⟩))⟩;refine ⟨_,rfl,by show 0<=aB; omega,fun e0 he0=>?_⟩;have u0:=aF he0 (.lst []);refine ⟨lq,e0,_,rfl,rfl,u0 _ _ (hqG b1),ah,_,rfl,fV (fun ne=>?_) (fun _=>hN _ _ ⟨rfl,pu1.same u0,b1.same u0⟩)⟩;have l0:=pU ne;rw [ar] at l0;refine fb ⟨_,rfl,_,rfl,_,rfl,lq,_,rfl,.inl (SqL.of (u0 _ _ (hqG b1))),p,_,rfl,pu1.same u0,by rw [ar]; omega,by rw [ar]; omega,fun r G2 r0 r1' pu2 b2=>?_⟩;rw [ar] at r1';obtain ⟨x,hx,mx⟩:=jR r0 r1';have b2':=(b1.same u0).trans b2;refine ⟨lq,_,_,_,rfl,rfl,SqL.of (hqG b2'),hx,lt2,fun t ht=>?_⟩;have st:=aF ht (.tup [.str "long",.str x]);exact k _ (.long x) _ (.long ah mx) (by show 1<=d + 1; omega) (pu2.same st) (b2'.same st)
 rintro _ G ⟨rfl,puG,bG⟩;clear pu1 b1;refine cm (hV ⟨_,rfl,rfl,_,rfl,fV (fun _=>?_) (fun _=>?_)⟩)
 ·refine fb ⟨De,fun t ht=>?_⟩;have st:=aF ht (.tup [.str "now"]);exact k _ .now _ (.now ah) (by show 1<=d + 1; omega) (puG.same st) (bG.same st)
 dsimp only [oB];refine cm (hV ⟨_,rfl,_,_,rfl,rfl,_,rfl,fV (fun _=>?_) (fun c6=>?_)⟩)
 ·refine fb ⟨_,rfl,p,2,rfl,puG,by decide,by decide,fun a4 G4 a40 a41 pu4 b4=>⟨lt2,fun t4 ht4=>?_⟩⟩;have q4:=aF ht4 (.tup [.str "got",.int a4]);have er:a4=if (decide (a4=1))=true then 1 else 0:=by
   by_cases c:a4=1
   ·rw [decide_eq_true c,if_pos rfl];exact c
   ·rw [decide_eq_false c,if_neg (by decide)];omega
  exact k _ (.got (decide (a4=1))) _ (.got (by rw [ah,<- er])) (by show 1<=d + 1; omega) (pu4.same q4) ((bG.trans b4).same q4)
 dsimp only [oB];have c6:¬ pk < 6:=fun z=>c6 (decide_eq_true z);obtain ⟨e,rfl⟩:∃ e,d=e + 1:=⟨d - 1,by
  by_cases z:d=0
  ·have:=md z;omega
  ·omega⟩
 have em1:((e + 1:Nat):Int) - 1=(e:Int):=by omega
 refine cm (cW ⟨by show 8<=aB; omega,fun l hl=>?_⟩);have ql:=aF hl (.lst (yl.map V.str));refine ⟨_,rfl,p,8,rfl,puG.same ql,by decide,by decide,fun r G1 r0 r1' pu1 b1=>?_⟩;have nlp:l≠p:=rh puG hl;obtain ⟨x,hx,mx⟩:=GZ r0 r1';refine ⟨l,_,_,_,rfl,rfl,SqL.of (b1 _ _ ah nlp),hx,bN ?_⟩;dsimp only;have bb1:But p H G1:=(bG.same ql).trans b1;refine cm (cW ⟨_,rfl,_,rfl,_,_,rfl,rfl,_,rfl,_,rfl,p,lb,lq,e,(by show [V.ref p,V.int (((e + 1:Nat):Int) - 1),V.ref lb,V.ref lq]=_; rw [em1]),by omega,pu1,hbG bb1,hqG bb1,lbs,lqs,fun v1 F1 G2 hF1 dF1 pu2 b2=>bN ?_⟩);dsimp only;have bb2:=bb1.trans b2;refine fb ⟨_,rfl,_,rfl,_,rfl,_,rfl,_,_,rfl,rfl,_,rfl,_,rfl,p,lb,lq,e,(by show [V.ref p,V.int (((e + 1:Nat):Int) - 1),V.ref lb,V.ref lq]=_; rw [em1]),by omega,pu2,hbG bb2,hqG bb2,lbs,lqs,fun v2 F2 G3 hF2 dF2 pu3 b3=>⟨by show 3<=aB; omega,fun t ht=>?_⟩⟩;have qt:=aF ht (.tup [.str x,v1,v2]);exact k _ (.two x F1 F2) _ (.two ah mx ((hF1.but pu2 b3).mono fun t xs e=>qt _ _ e) (hF2.mono fun t xs e=>qt _ _ e)) (by show max F1.depth F2.depth + 1<=e + 1 + 1; omega) (pu3.same qt) ((bb2.trans b3).same qt)
theorem Hc (D:Df K mg "_law_formula" gD pFo f fd) (DD:Df K mg "_law_draw" eg pD fD fdD) (DW:Df K mg "_law_worth" fi pW fW fdW) (B:Bl mg):∀ n:Nat,bA P w K mg base CX0 (n + 2) f fd pFo (Ha bs qs n)
 | 0=>⟨fun vs H Q E h=>by
   obtain ⟨p,lb,lq,d,_,h,_⟩:=h;omega,fun A outer s H args us vs Q E _ _ _ _ h=>by
   obtain ⟨p,lb,lq,d,_,h,_⟩:=h;omega⟩
 | n + 1=>Jv D DD DW B (Hc D DD DW B n)
end
end My
namespace L2
open PySem PySem.Spec PyProof.Rows PySem.SeqAt
section
variable {X:Cx}
theorem MP (hu:X.A.units + 50 < eO):OpR X (dv .Eq) (fun x y H Q=>∃ p q xs,x=.ref p/\y=.ref q/\H p=some (.lst xs)/\H q=some (.lst [])/\Q (.bl xs.isEmpty) H):=by
 intro pins s σ H x y v u Q I rx ry h;obtain ⟨p,q,xs,rfl,rfl,h1,h2,k⟩:=h
 cases rx
 cases ry;obtain ⟨us,r1,i1⟩:=gZ I.hok h1;obtain ⟨vs,r2,i2⟩:=gZ I.hok h2
 cases r2;have hl:=r1.length
 cases xs with
 | nil =>
  cases r1;exact RcAt.lists (A:=X.A) (e:=fun _=>true) i1 i2 rfl (by omega) (fun j a b=>absurd a (hW _)) X.prog X.w _ _ ⟨.bl true,H,I,rfl,k⟩
 | cons a xs =>
  exact RcAt.lists_lengths i1 i2 (by
   cases us with
   | nil=>cases hl
   | cons b us=>simp) (by omega) X.prog X.w _ _ ⟨.bl false,H,I,rfl,k⟩
end
end L2
namespace My
open PySem L2
structure Th (H:Hp) (lt lb lq:aa) (bs qs:List Str):Prop where
 ht:H lt=some (.tup [.ref lb,.ref lq])
 hb:H lb=some (.lst (bs.map V.str))
 hq:H lq=some (.lst (qs.map V.str))
 lb:bs.length<=9
 lq:qs.length<=9
theorem Th.keepI {H H':Hp} {lt lb lq:aa} {bs qs:List Str} (k:dN H H') (h:Th H lt lb lq bs qs):Th H' lt lb lq bs qs:=
 ⟨k _ _ h.ht (lK _),k _ _ h.hb (BZ _),k _ _ h.hq (BZ _),h.lb,h.lq⟩
theorem He {r:Int} (h0:0<=r) (h1:r < 3):∃ x:Str,atI [V.str "go",.str "on",.str "stop"] r=some (.str x):=by
 obtain ⟨x,hx,_⟩:=jR (bs:=["go","on","stop"]) h0 h1;exact ⟨x,hx⟩
section
variable {P:aJ} {w:bJ} {K:af} {mg:Str->Option ae} {base:cu} {f fD fW fF fSe fS fE:aa} {fd fdD fdW fdF fdSe fdS fdE:bR} {bs qs:List Str}
seal PS PSs PE PA PT PW PI PG PGs PC
abbrev nSd:List Str:=["_law_purse_here","_law_there","_law_many","_law_boxes","_law_queues","_law_span","_law_to","_law_sign_here","_law_one"]
abbrev pSd:List Str:=["_law_purse_here","_law_there","_law_many"]
theorem zG:bK nSd pSd (aL kj):={}
inductive KA (bs qs:List Str) (vs:List V) (H:Hp) (Q:VK) (_e:XK):Prop where
 | mk (p lt lb lq:aa) (m:Int) (_:vs=[.ref p,.ref lt,.int m]) (_:dy H p) (_:Th H lt lb lq bs qs) (_:0 < m) (_:m < 1000) (_:∀ (v:V) (dd:Dd) (H':Hp),OwD bs qs H H' dd v->dd.toOk m->dd.deep=0->dd.size<=1->dy H' p->But p H H'->Q v H'):KA bs qs vs H Q _e
def spSd (bs qs:List Str):Sp:=fun vs H Q _e=>KA bs qs vs H Q _e
theorem ok_sd (D:Df K mg "_law_send" kj pSd f fd) (DF:Df K mg "_law_formula" gD pFo fF fdF) (DD:Df K mg "_law_draw" eg pD fD fdD) (DW:Df K mg "_law_worth" fi pW fW fdW) (B:Bl mg):bA P w K mg base CX0 5 f fd pSd (spSd bs qs):=by
 have GD:bA P w K mg base CX0 1 fD fdD pD jx:=jF DD;have GF:bA P w K mg base CX0 4 fF fdF pFo (Ha bs qs 2):=Hc DF DD DW B 2;refine D.F.ok zG (fun vs H Q E h=>?_) (fun cdv A outer s H vs Q E hr h=>?_)
 ·obtain ⟨p,lt,lb,lq,m,rfl,_⟩:=h;rfl
 obtain ⟨p,lt,lb,lq,m,rfl,pu,T,m0,m1,k⟩:=h;have r1:c5 1 _:=hr.mono (by decide);have r4:c5 4 _:=hr;refine ⟨_,aj (rG (pv 1) (uC rfl (iJ (dQ (i:=3) zG.nd rfl (Or.inl rfl)) (iJ (dQ (i:=4) zG.nd rfl (Or.inl rfl)) qI))))
  (aj (bC (i:=5) zG.nd rfl (Or.inl rfl) (dR (dC bX (rg (cT gK aw (aK GD r1 (by rfl) DD.m DD.F.kp DD.b .nil bj (bE (pv 0) (dC aw ai)))) ai))))
  (aj (cS (bP e7 (aK GD r1 (by rfl) DD.m DD.F.kp DD.b .nil bj (bE (pv 0) (dC aw ai))) aw (cb _)) (ay (bC (i:=5) zG.nd rfl (Or.inl rfl) (aK GF r4 (by rfl) DF.m DF.F.kp DF.b .nil bj (bE (pv 0) (dC aw (bE (pv 3) (bE (pv 4) ai))))))) bY)
  (aj (bC (i:=6) zG.nd rfl (Or.inl rfl) (aK GD r1 (by rfl) DD.m DD.F.kp DD.b .nil bj (bE (pv 0) (bE (pv 2) ai))))
  (aj (bC (i:=7) zG.nd rfl (Or.inl rfl) (bU dI (eS (dC bX (dC bX (dC bX ai)))) (aK GD r1 (by rfl) DD.m DD.F.kp DD.b .nil bj (bE (pv 0) (dC aw ai))) (fun _ _=>rfl)))
  (aj (bC (i:=8) zG.nd rfl (Or.inl rfl) (aK GF r4 (by rfl) DF.m DF.F.kp DF.b .nil bj (bE (pv 0) (dC aw (bE (pv 3) (bE (pv 4) ai))))))
  (ay (bM (dR (dC bX (bE (pv 6) (bE (pv 7) (bE (pv 5) (iN (aK GD r1 (by rfl) DD.m DD.F.kp DD.b .nil bj (bE (pv 0) (dC aw ai))) (bE (pv 8) (iN (aK GF r4 (by rfl) DF.m DF.F.kp DF.b .nil bj (bE (pv 0) (dC aw (bE (pv 3) (bE (pv 4) ai))))) ai))))))))))))))),?_⟩
 have big:=dY;refine cm (cW ⟨_,rfl,lt,_,rfl,SqT.of T.ht,rfl,_,_,rfl,bN ⟨_,_,rfl,bN ⟨rfl,?_⟩⟩⟩);dsimp only;refine cm (cW ⟨_,rfl,p,7,rfl,pu,by decide,by decide,fun a G a0 a1 puG bG=>⟨_,_,rfl,rfl,lt2,fun t1 ht1=>bN ?_⟩⟩);dsimp only;have s1:=aF ht1 (.tup [.str "number",.int (1 + a)]);have ki1:=(dN.but pu bG).trans (dN.same s1);have pu1:=puG.same s1;have b1:=bG.same s1;have f1:FmI bs qs (upd G t1 (.tup [.str "number",.int (1 + a)])) (.ref t1) (.num (1 + a)):=⟨.num ah (sO (by omega)),by show 1<=15; decide⟩;revert ki1 pu1 b1 f1;clear s1 ht1;generalize upd G t1 (.tup [.str "number",.int (1 + a)])=G1;intro ki1 pu1 b1 f1
 -- the span
 refine wc (fun σ' G=>∃ (v5:V) (F:Fm),σ'=[some (.ref p),some (.ref lt),some (.int m),some (.ref lb),some (.ref lq),some v5,none,none,none]/\FmI bs qs G v5 F/\dy G p/\But p H G/\dN H G) ?_ ?_
 rotate_left
 ·intro N hN;refine hV ⟨_,rfl,p,8,rfl,pu1,by decide,by decide,fun r G2 r0 r8 pu2 b2=>⟨rfl,_,rfl,fV (fun _=>?_) (fun _=>hN _ _ ⟨_,_,rfl,f1.keepI (dN.but pu1 b2),pu2,b1.trans b2,ki1.trans (dN.but pu1 b2)⟩)⟩⟩;have ki2:=ki1.trans (dN.but pu1 b2);have T2:=T.keepI ki2;refine cW ⟨_,rfl,_,rfl,_,rfl,p,lb,lq,1,rfl,by decide,pu2,T2.hb,T2.hq,T.lb,T.lq,fun v F G3 hF dF pu3 b3=>bN (hN _ _ ⟨v,F,rfl,⟨hF,by omega⟩,pu3,(b1.trans b2).trans b3,ki2.trans (dN.but pu2 b3)⟩)⟩
 rintro _ G2 ⟨v5,F5,rfl,f5,pu2,b2,ki2⟩;refine cm (cW ⟨_,rfl,_,rfl,p,m,rfl,pu2,by omega,by omega,fun to G3 to0 to1 pu3 b3=>bN ?_⟩);dsimp only;refine cm (cW ⟨by show 3<=aB; omega,fun l3 hl3=>?_⟩);have s3:=aF hl3 (.lst [.str "go",.str "on",.str "stop"]);refine ⟨_,rfl,p,3,rfl,pu3.same s3,by decide,by decide,fun r G4 r0 r3 pu4 b4=>?_⟩;obtain ⟨sg,hsg⟩:=He r0 r3;refine ⟨l3,_,_,_,rfl,rfl,SqL.of (b4 _ _ ah (rh pu3 hl3)),hsg,bN ?_⟩;dsimp only;have k24:=((dN.but pu2 b3).trans (dN.same s3)).trans (dN.but (pu3.same s3) b4);have T4:=T.keepI (ki2.trans k24);refine cm (cW ⟨_,rfl,_,rfl,_,rfl,p,lb,lq,1,rfl,by decide,pu4,T4.hb,T4.hq,T.lb,T.lq,fun v6 F6 G5 hF6 dF6 pu5 b5=>bN ?_⟩);dsimp only;refine fb ⟨_,rfl,_,rfl,_,rfl,_,rfl,p,10,rfl,pu5,by decide,by decide,fun rk G6 rk0 rk1 pu6 b6=>⟨_,rfl,_,rfl,_,rfl,_,rfl,?_⟩⟩;have k45:=dN.but pu4 b5;have k56:=dN.but pu5 b6;have T6:=T4.keepI (k45.trans k56);refine ⟨p,lb,lq,0,rfl,by decide,pu6,T6.hb,T6.hq,T.lb,T.lq,fun v7 F7 G7 hF7 dF7 pu7 b7=>⟨by show 7<=aB; omega,fun t ht=>?_⟩⟩;have st:=aF ht (.tup [.str "send",.int to,.str sg,v5,.int rk,v6,v7]);have f6:FmI bs qs G5 v6 F6:=⟨hF6,by omega⟩;have f7:FmI bs qs G7 v7 F7:=⟨hF7,by omega⟩;have k67:=(dN.but pu6 b7).trans (dN.same st);exact k _ (.send to sg F5 rk F6 F7) _ (Jm ah (f5.keepI (((k24.trans k45).trans k56).trans k67)) (f6.keepI (k56.trans k67)) (f7.keepI (dN.same st))) ⟨to0,to1⟩ rfl (aC _) (pu7.same st) ((((((b2.trans b3).same s3).trans b4).trans b5).trans b6).trans b7 |>.same st)
end
structure Gro (bs qs:List Str) (m:Int) (dp S:Nat) (B G:Hp) (l0:aa) (i:Nat):Prop where
 ex:∃ (xs:List V) (ds:Ds),G l0=some (.lst xs)/\xs.length<=i/\OwS bs qs B G ds xs/\ds.toOk m/\ds.deep<=dp/\ds.size<=i * S
theorem Gro.up {bs qs:List Str} {m:Int} {dp S:Nat} {B G:Hp} {l0:aa} {i:Nat} (h:Gro bs qs m dp S B G l0 i):Gro bs qs m dp S B G l0 (i + 1):=by
 obtain ⟨xs,ds,h1,h2,h3,h4,h5,h6⟩:=h.ex;exact ⟨xs,ds,h1,by omega,h3,h4,h5,cZ h6 (Du _ (fq _))⟩
theorem Gro.keepI {bs qs:List Str} {m:Int} {dp S:Nat} {B G G':Hp} {l0:aa} {i:Nat} (h:Gro bs qs m dp S B G l0 i) (k:dN G G'):Gro bs qs m dp S B G' l0 i:=by
 obtain ⟨xs,ds,h1,h2,h3,h4,h5,h6⟩:=h.ex;exact ⟨xs,ds,k _ _ h1 h3.now.ni,h2,h3.keepI k,h4,h5,h6⟩
theorem Gro.step {bs qs:List Str} {m:Int} {dp S:Nat} {B G G3:Hp} {p lf l0:aa} {i:Nat} {xs:List V} {ds:Ds} {v:V} {dd:Dd} (n0:l0∉[p,lf]) (L:Lf G p lf) (k:Kp [p,lf] G G3) (hB:B l0≠none) (dm:Dm B G) (hx:G l0=some (.lst xs)) (lx:xs.length<=i) (O:OwS bs qs B G ds xs) (to:ds.toOk m) (d1:ds.deep<=dp) (sz:ds.size<=i * S)
  (hO:OwD bs qs G G3 dd v) (t:dd.toOk m) (d2:dd.deep<=dp) (s2:dd.size<=S):Gro bs qs m dp S B (upd G3 l0 (.lst (xs++[v]))) l0 (i + 1):=by
 have hx3:=k _ _ hx n0;have ol:G l0≠none:=by
  rw [hx];intro z
  cases z
 have nt3:∀ ys,G3 l0≠some (.tup ys):=fun ys z=>by
  rw [hx3] at z
  cases z
 refine ⟨xs++[v],pB ds dd,ah,by rw [aA]; show xs.length + 1<=i + 1; omega,GX ((O.keepI (k.keepI L.int)).old hB nt3) ((hO.old ol nt3).base dm),B2 t ds to,by rw [xg]; omega,?_⟩;rw [xh,Nat.succ_mul];omega
theorem Lf.put {G:Hp} {p lf l0:aa} {o:HO} (L:Lf G p lf) (n0:l0∉[p,lf]):Lf (upd G l0 o) p lf:=by
 obtain ⟨x,y,e⟩:=L.pu;obtain ⟨z,e'⟩:=L.hl;exact ⟨⟨x,y,aR e (fun q=>n0 (by rw [<- q]; exact ax))⟩,z,aR e' (fun q=>n0 (by rw [<- q]; exact ag _ ax))⟩
theorem Lf.kp' {H G:Hp} {p lf:aa} (_L:Lf G p lf) (b:But p H G):Kp [p,lf] H G:=Kp.but b ax
structure Dr (H G:Hp) (p lf lt lb lq:aa) (bs qs:List Str):Prop where
 L:Lf G p lf
 T:Th G lt lb lq bs qs
 k:Kp [p,lf] H G
theorem Dr.but {H G G':Hp} {p lf lt lb lq:aa} {bs qs:List Str} (d:Dr H G p lf lt lb lq bs qs) (b:But p G G') (pu:dy G' p):Dr H G' p lf lt lb lq bs qs:=⟨d.L.but b pu,d.T.keepI (dN.but d.L.pu b),d.k.trans (Kp.but b ax)⟩
theorem Dr.same {H G G':Hp} {p lf lt lb lq:aa} {bs qs:List Str} (d:Dr H G p lf lt lb lq bs qs) (s:bf G G'):Dr H G' p lf lt lb lq bs qs:=⟨d.L.same s,d.T.keepI (dN.same s),d.k.trans (Kp.same s)⟩
theorem Dr.kp {H G G':Hp} {p lf lt lb lq:aa} {bs qs:List Str} (d:Dr H G p lf lt lb lq bs qs) (k:Kp [p,lf] G G') (L:Lf G' p lf):Dr H G' p lf lt lb lq bs qs:=⟨L,d.T.keepI (k.keepI d.L.int),d.k.trans k⟩
theorem Dr.dm {H G:Hp} {p lf lt lb lq:aa} {bs qs:List Str} (d:Dr H G p lf lt lb lq bs qs):Dm H G:=d.k.dm d.L.there
section
variable {P:aJ} {w:bJ} {K:af} {mg:Str->Option ae} {base:cu} {f fD fW fF fSe fS fE:aa} {fd fdD fdW fdF fdSe fdS fdE:bR} {bs qs:List Str}
seal PS PSs PE PA PT PW PI PG PGs PC
abbrev nLd:List Str:=["_law_purse_here","_law_low","_law_left","_law_there","_law_many","_law_boxes","_law_queues","_law_pick","_law_queue","_law_formula_here","_law_ones"]
abbrev pLd:List Str:=["_law_purse_here","_law_low","_law_left","_law_there","_law_many"]
theorem AY:bK nLd pLd (aL km):={}
abbrev nLs:List Str:=["_law_purse_here","_law_low","_law_left","_law_there","_law_many","_law_found","_law_k"]
abbrev pLs:List Str:=["_law_purse_here","_law_low","_law_left","_law_there","_law_many"]
theorem MT:bK nLs pLs (aL iW):={}
inductive KB (bs qs:List Str) (n:Nat) (vs:List V) (H:Hp) (Q:VK) (_e:XK):Prop where
 | mk (p lt lb lq lf:aa) (m:Int) (d:Nat) (_:vs=[.ref p,.int d,.ref lf,.ref lt,.int m]) (_:d < n) (_:Lf H p lf) (_:Th H lt lb lq bs qs) (_:0 < m) (_:m < 1000) (_:∀ (v:V) (dd:Dd) (H':Hp),OwD bs qs H H' dd v->dd.toOk m->dd.deep<=d->dd.size<=ddz d->Lf H' p lf->Kp [p,lf] H H'->Q v H'):KB bs qs n vs H Q _e
def spLd (bs qs:List Str) (n:Nat):Sp:=fun vs H Q _e=>KB bs qs n vs H Q _e
inductive KC (bs qs:List Str) (n:Nat) (vs:List V) (H:Hp) (Q:VK) (_e:XK):Prop where
 | mk (p lt lb lq lf:aa) (m:Int) (d:Nat) (_:vs=[.ref p,.int d,.ref lf,.ref lt,.int m]) (_:d < n) (_:Lf H p lf) (_:Th H lt lb lq bs qs) (_:0 < m) (_:m < 1000) (_:∀ (l:aa) (xs:List V) (ds:Ds) (H':Hp),H l=none->H' l=some (.lst xs)->xs.length < 1000->OwS bs qs H H' ds xs->ds.toOk m->ds.deep<=d->ds.size<=3 * ddz d->Lf H' p lf->Kp [p,lf] H H'->Q (.ref l) H'):KC bs qs n vs H Q _e
def Hf (bs qs:List Str) (n:Nat):Sp:=fun vs H Q _e=>KC bs qs n vs H Q _e
theorem Jw {n kk:Nat} (hk:5<=kk) (D:Df K mg "_law_deed" km pLd f fd) (DS:Df K mg "_law_deeds" iW pLs fS fdS) (GS:bA P w K mg base CX0 kk fS fdS pLs (Hf bs qs n)) (DSe:Df K mg "_law_send" kj pSd fSe fdSe) (DF:Df K mg "_law_formula" gD pFo fF fdF) (DD:Df K mg "_law_draw" eg pD fD fdD) (DW:Df K mg "_law_worth" fi pW fW fdW) (B:Bl mg) :
  bA P w K mg base CX0 (kk + 1) f fd pLd (spLd bs qs (n + 1)):=by
 have GD:bA P w K mg base CX0 1 fD fdD pD jx:=jF DD;have GF:bA P w K mg base CX0 5 fF fdF pFo (Ha bs qs 3):=Hc DF DD DW B 3;have GSe:bA P w K mg base CX0 5 fSe fdSe pSd (spSd bs qs):=ok_sd DSe DF DD DW B;refine D.F.ok AY (fun vs H Q E h=>?_) (fun cdv A outer s H vs Q E hr h=>?_)
 ·obtain ⟨p,lt,lb,lq,lf,m,d,rfl,_⟩:=h;rfl
 obtain ⟨p,lt,lb,lq,lf,m,d,rfl,dn,L,T,m0,m1,k⟩:=h;have h50:=Iu hr;have r1:c5 1 _:=hr.mono (by omega);have r5:c5 5 _:=hr.mono hk;refine ⟨_,aj (rG (pv 3) (uC rfl (iJ (dQ (i:=5) AY.nd rfl (Or.inl rfl)) (iJ (dQ (i:=6) AY.nd rfl (Or.inl rfl)) qI))))
  (aj (bC (i:=7) AY.nd rfl (Or.inl rfl) (aK GD r1 (by rfl) DD.m DD.F.kp DD.b .nil bj (bE (pv 0) (dC aw ai))))
  (aj (cS ((A2 (bP p7 (pv 7) aw (cb _)) (xn ((oA (bP p7 (pv 7) aw (cb _)) (mC (bP (MP h50) (pv 5) (eS ai) (cb _)))).pt))).pt) (ay (bM (aK GSe r5 (by rfl) DSe.m DSe.F.kp DSe.b .nil bj (bE (pv 0) (bE (pv 3) (bE (pv 4) ai)))))) bY)
  (aj (cS (bP p7 (pv 7) aw (cb _)) (ay (bM (dR (dC bX (qC (bU dI (pv 5) (aK GD r1 (by rfl) DD.m DD.F.kp DD.b .nil bj (bE (pv 0) (iN (cL (fg K (by rfl)) (by rfl) B.len cA (bE (pv 5) ai)) ai))) (fun _ _=>rfl)) (iN (aK GF r5 (by rfl) DF.m DF.F.kp DF.b .nil bj (bE (pv 0) (dC aw (bE (pv 5) (bE (pv 6) ai))))) ai)))))) bY)
  (aj (cS (bP e7 (pv 7) aw (cb _)) (ay (bM (dR (dC bX (qC (bU dI (pv 5) (aK GD r1 (by rfl) DD.m DD.F.kp DD.b .nil bj (bE (pv 0) (iN (cL (fg K (by rfl)) (by rfl) B.len cA (bE (pv 5) ai)) ai))) (fun _ _=>rfl)) (vA (dR (dC bX (rg (cT gK aw (aK GD r1 (by rfl) DD.m DD.F.kp DD.b .nil bj (bE (pv 0) (dC aw ai)))) ai))) ai)))))) bY)
  (aj (cS ((oA (bP e7 (pv 7) aw (cb _)) (oA (bP (xV h50) (pv 6) (eS ai) (cb _)) (mC (bP uE (pv 1) aw (cb _))))).pt) (aj (bC (i:=8) AY.nd rfl (Or.inl rfl) (bU dI (pv 6) (aK GD r1 (by rfl) DD.m DD.F.kp DD.b .nil bj (bE (pv 0) (iN (cL (fg K (by rfl)) (by rfl) B.len cA (bE (pv 6) ai)) ai))) (fun _ _=>rfl)))
  (ay (bM (dR (dC bX (bE (pv 8) (qC (bU dI (pv 5) (aK GD r1 (by rfl) DD.m DD.F.kp DD.b .nil bj (bE (pv 0) (iN (cL (fg K (by rfl)) (by rfl) B.len cA (bE (pv 5) ai)) ai))) (fun _ _=>rfl)) (iN (aK GS hr (by rfl) DS.m DS.F.kp DS.b .nil bj (bE (pv 0) (rg (cT jv (pv 1) aw) (bE (pv 2) (bE (pv 3) (bE (pv 4) ai)))))) ai)))))))) bY)
  (aj (cS ((oA (bP e7 (pv 7) aw (cb _)) (mC (bP (xV h50) (pv 6) (eS ai) (cb _)))).pt) (ay (bM (dR (dC bX (qC (bU dI (pv 6) (aK GD r1 (by rfl) DD.m DD.F.kp DD.b .nil bj (bE (pv 0) (iN (cL (fg K (by rfl)) (by rfl) B.len cA (bE (pv 6) ai)) ai))) (fun _ _=>rfl)) (iN (aK GF r5 (by rfl) DF.m DF.F.kp DF.b .nil bj (bE (pv 0) (dC aw (bE (pv 5) (bE (pv 6) ai))))) ai)))))) bY)
  (aj (cS ((oA (bP p7 (pv 7) aw (cb _)) (mC (bP uE (pv 1) aw (cb _)))).pt) (aj (bC (i:=9) AY.nd rfl (Or.inl rfl) (aK GF r5 (by rfl) DF.m DF.F.kp DF.b .nil bj (bE (pv 0) (dC aw (bE (pv 5) (bE (pv 6) ai))))))
  (aj (bC (i:=10) AY.nd rfl (Or.inl rfl) (aK GS hr (by rfl) DS.m DS.F.kp DS.b .nil bj (bE (pv 0) (rg (cT jv (pv 1) aw) (bE (pv 2) (bE (pv 3) (bE (pv 4) ai)))))))
  (ay (bM (dR (dC bX (bE (pv 9) (bE (pv 10) (iN (aK GS hr (by rfl) DS.m DS.F.kp DS.b .nil bj (bE (pv 0) (rg (cT jv (pv 1) aw) (bE (pv 2) (bE (pv 3) (bE (pv 4) ai)))))) ai))))))))) bY)
  (aj (cS ((oA (bP e7 (pv 7) aw (cb _)) (mC (bP e7 (aK GD r1 (by rfl) DD.m DD.F.kp DD.b .nil bj (bE (pv 0) (dC aw ai))) aw (cb _)))).pt) (ay (bM (dR (dC bX ai)))) bY)
  (ay (bM (aK GSe r5 (by rfl) DSe.m DSe.F.kp DSe.b .nil bj (bE (pv 0) (bE (pv 3) (bE (pv 4) ai)))))))))))))),?_⟩
 have big:=dY;have dz:=Jp d;have lbs:=T.lb;have lqs:=T.lq;refine cm (cW ⟨_,rfl,lt,_,rfl,SqT.of T.ht,rfl,_,_,rfl,bN ⟨_,_,rfl,bN ⟨rfl,?_⟩⟩⟩);dsimp only;refine cm (cW ⟨_,rfl,p,12,rfl,L.pu,by decide,by decide,fun pk G pk0 pk1 puG bG=>bN ?_⟩);dsimp only;have d0:Dr H H p lf lt lb lq bs qs:=⟨L,T,Kp.refl _ _⟩;have dG:=d0.but bG puG
 -- a send
 have snd:∀ {G:Hp},Dr H G p lf lt lb lq bs qs->∀ (v:V) (dd:Dd) (H':Hp),OwD bs qs G H' dd v->dd.toOk m->dd.deep=0->dd.size<=1->dy H' p->But p G H'->Q v H':=fun d1 v dd H' hO t e1 e2 pu' b'=>k v dd H' (hO.base d1.dm) t (by omega) (by omega) (d1.L.but b' pu') (d1.k.trans (Kp.but b' ax));refine wc (fun σ' G=>σ'=[some (.ref p),some (.int d),some (.ref lf),some (.ref lt),some (.int m),some (.ref lb),some (.ref lq),some (.int pk),none,none,none]/\(pk < 8->0 < bs.length)/\Dr H G p lf lt lb lq bs qs) ?_ ?_
 rotate_left
 ·intro N hN;refine hV ⟨_,rfl,_,_,rfl,rfl,_,rfl,fV (fun _=>?_) (fun c4=>?_)⟩
  ·exact iL (fb ⟨_,rfl,_,rfl,_,rfl,p,lt,lb,lq,m,rfl,puG,dG.T,m0,m1,snd dG⟩)
  refine ⟨_,rfl,_,_,rfl,rfl,_,rfl,fV (fun _=>?_) (fun c8=>fZ (hN _ _ ⟨rfl,fun z=>absurd (decide_eq_true z) c8,dG⟩))⟩;refine ⟨_,rfl,by show 0<=aB; omega,fun e0 he0=>?_⟩;have u0:=aF he0 (.lst []);have d1:=dG.same u0;refine ⟨lb,e0,_,rfl,rfl,d1.T.hb,ah,_,rfl,fV (fun _=>?_) (fun ne=>hN _ _ ⟨rfl,fun _=>?_,d1⟩)⟩
  ·exact fb ⟨_,rfl,_,rfl,_,rfl,p,lt,lb,lq,m,rfl,d1.L.pu,d1.T,m0,m1,snd d1⟩
  ·cases bs with
   | nil=>exact absurd rfl ne
   | cons y ys=>exact o7 _
 rintro _ G1 ⟨rfl,c8,d1⟩;clear dG puG bG
 -- a box, drawn
 have bx:∀ {G:Hp} {R:VK} {E':XK},pk < 8->Dr H G p lf lt lb lq bs qs->(∀ (x:Str) (G':Hp),x∈bs->dy G' p->But p G G'->Dr H G' p lf lt lb lq bs qs->R (.str x) G')->jx [V.ref p,V.int ((bs.map V.str).length:Int)] G (fun y H2=>Lh K (.ref lb) y H2 R) E':=fun c d2 q=>by
  have l0:=c8 c;refine ⟨p,_,rfl,d2.L.pu,by rw [ar]; omega,by rw [ar]; omega,fun r G2 r0 r1' pu2 b2=>?_⟩;rw [ar] at r1';obtain ⟨x,hx,mx⟩:=jR r0 r1';have d3:=d2.but b2 pu2;exact ⟨lb,_,_,_,rfl,rfl,SqL.of d3.T.hb,hx,q x G2 mx pu2 b2 d3⟩
 refine cm (hV ⟨_,rfl,_,_,rfl,rfl,_,rfl,fV (fun c6=>?_) (fun _=>?_)⟩)
 ·have c6:pk < 6:=of_decide_eq_true c6;refine fb ⟨_,rfl,_,rfl,_,rfl,lb,_,rfl,.inl (SqL.of d1.T.hb),bx (by omega) d1 fun x G2 mx pu2 b2 d2=>?_⟩;refine ⟨_,rfl,_,rfl,_,rfl,p,lb,lq,2,rfl,by decide,pu2,d2.T.hb,d2.T.hq,lbs,lqs,fun v F G3 hF dF pu3 b3=>⟨by show 3<=aB; omega,fun t ht=>?_⟩⟩;have st:=aF ht (.tup [.str "put",.str x,v]);have d3:=(d2.but b3 pu3).same st;have fI:FmI bs qs G3 v F:=⟨hF,by omega⟩;exact k _ (.put x F) _ (MH ah mx (fI.keepI (dN.same st))) trivial (bT _) dz d3.L d3.k
 dsimp only [oB];refine cm (hV ⟨_,rfl,rfl,_,rfl,fV (fun c6=>?_) (fun _=>?_)⟩)
 ·have c6:pk=6:=V.int.inj (of_decide_eq_true c6);refine fb ⟨_,rfl,_,rfl,_,rfl,lb,_,rfl,.inl (SqL.of d1.T.hb),bx (by omega) d1 fun x G2 mx pu2 b2 d2=>?_⟩;refine ⟨_,rfl,p,20,rfl,pu2,by decide,by decide,fun a G3 a0 a1 pu3 b3=>⟨_,_,rfl,rfl,lt2,fun t1 ht1=>⟨by show 3<=aB; omega,fun t ht=>?_⟩⟩⟩;have s1:=aF ht1 (.tup [.str "number",.int (1 + a)]);have st:=aF ht (.tup [.str "draw",.str x,.ref t1]);have d3:=((d2.but b3 pu3).same s1).same st;exact k _ (.draw x (.num (1 + a))) _ (Jl ah mx ⟨.num (st _ _ ah) (sO (by omega)),by show 1<=15; decide⟩) trivial (bT _) dz d3.L d3.k
 dsimp only [oB]
 -- pull
 refine wc (fun σ' G=>σ'=[some (.ref p),some (.int d),some (.ref lf),some (.ref lt),some (.int m),some (.ref lb),some (.ref lq),some (.int pk),none,none,none]/\Dr H G p lf lt lb lq bs qs) ?_ ?_
 rotate_left
 ·intro N hN;refine hV ⟨_,rfl,rfl,_,rfl,fV (fun c7=>?_) (fun _=>fZ (hN _ _ ⟨rfl,d1⟩))⟩;have c7:pk=7:=V.int.inj (of_decide_eq_true c7);refine ⟨_,rfl,by show 0<=aB; omega,fun e0 he0=>?_⟩;have u0:=aF he0 (.lst []);have d2:=d1.same u0;refine ⟨lq,e0,_,rfl,rfl,d2.T.hq,ah,_,rfl,fV (fun ne=>?_) (fun _=>fZ (hN _ _ ⟨rfl,d2⟩))⟩;refine ⟨_,rfl,_,_,rfl,rfl,_,rfl,fV (fun cd=>?_) (fun _=>hN _ _ ⟨rfl,d2⟩)⟩;have cd:(d:Int) > 0:=of_decide_eq_true cd;obtain ⟨e,rfl⟩:∃ e,d=e + 1:=⟨d - 1,by omega⟩;have em1:((e + 1:Nat):Int) - 1=(e:Int):=by omega
  have l0:=pU ne;rw [ar] at l0;refine cm (cW ⟨_,rfl,_,rfl,_,rfl,lq,_,rfl,.inl (SqL.of d2.T.hq),p,_,rfl,d2.L.pu,by rw [ar]; omega,by rw [ar]; omega,fun r G2 r0 r1' pu2 b2=>?_⟩);rw [ar] at r1';obtain ⟨y,hy,my⟩:=jR r0 r1';have d3:=d2.but b2 pu2;refine ⟨lq,_,_,_,rfl,rfl,SqL.of d3.T.hq,hy,bN ?_⟩;dsimp only;refine fb ⟨_,rfl,_,rfl,_,rfl,_,rfl,lb,_,rfl,.inl (SqL.of d3.T.hb),bx (by omega) d3 fun x G3 mx pu3 b3 d4=>?_⟩;refine ⟨_,rfl,_,rfl,_,_,rfl,rfl,_,rfl,_,rfl,_,rfl,p,lt,lb,lq,lf,m,e,(by show [V.ref p,V.int (((e + 1:Nat):Int) - 1),V.ref lf,V.ref lt,V.int m]=_; rw [em1]),by omega,d4.L,d4.T,m0,m1,fun l1 xs1 ds1 G4 hl1 h1 len1 O1 t1 dp1 sz1 L4 k4=>⟨by show 4<=aB; omega,fun t ht=>?_⟩⟩;have st:=aF ht (.tup [.str "pull",.str y,.str x,.ref l1]);have d5:=(d4.kp k4 L4).same st;refine k _ (.pull y x ds1) _ (Jn ah my mx (d4.dm l1 hl1) (st _ _ h1) len1 ((O1.base d4.dm).keepI (dN.same st))) t1 ?_ ?_ d5.L d5.k
  ·show ds1.deep + 1<=e + 1;omega
  ·show ds1.size + 1<=1 + 6 * ddz e;omega
 rintro _ G2 ⟨rfl,d2⟩;clear d1
 -- push
 refine wc (fun σ' G=>σ'=[some (.ref p),some (.int d),some (.ref lf),some (.ref lt),some (.int m),some (.ref lb),some (.ref lq),some (.int pk),none,none,none]/\Dr H G p lf lt lb lq bs qs) ?_ ?_
 rotate_left
 ·intro N hN;refine hV ⟨_,rfl,rfl,_,rfl,fV (fun c7=>?_) (fun _=>fZ (hN _ _ ⟨rfl,d2⟩))⟩;refine ⟨_,rfl,by show 0<=aB; omega,fun e0 he0=>?_⟩;have u0:=aF he0 (.lst []);have d3:=d2.same u0;refine ⟨lq,e0,_,rfl,rfl,d3.T.hq,ah,_,rfl,fV (fun ne=>?_) (fun _=>hN _ _ ⟨rfl,d3⟩)⟩;have l0:=pU ne;rw [ar] at l0;refine fb ⟨_,rfl,_,rfl,_,rfl,lq,_,rfl,.inl (SqL.of d3.T.hq),p,_,rfl,d3.L.pu,by rw [ar]; omega,by rw [ar]; omega,fun r G4 r0 r1' pu4 b4=>?_⟩;rw [ar] at r1';obtain ⟨y,hy,my⟩:=jR r0 r1';have d4:=d3.but b4 pu4;refine ⟨lq,_,_,_,rfl,rfl,SqL.of d4.T.hq,hy,?_⟩;refine ⟨_,rfl,_,rfl,_,rfl,p,lb,lq,1,rfl,by decide,pu4,d4.T.hb,d4.T.hq,lbs,lqs,fun v F G5 hF dF pu5 b5=>⟨by show 3<=aB; omega,fun t ht=>?_⟩⟩;have st:=aF ht (.tup [.str "push",.str y,v]);have d5:=(d4.but b5 pu5).same st;have fI:FmI bs qs G5 v F:=⟨hF,by omega⟩;exact k _ (.push y F) _ (Jk ah my (fI.keepI (dN.same st))) trivial (bT _) dz d5.L d5.k
 rintro _ G3 ⟨rfl,d3⟩;clear d2
 -- if
 refine wc (fun σ' G=>σ'=[some (.ref p),some (.int d),some (.ref lf),some (.ref lt),some (.int m),some (.ref lb),some (.ref lq),some (.int pk),none,none,none]/\Dr H G p lf lt lb lq bs qs) ?_ ?_
 rotate_left
 ·intro N hN;refine hV ⟨_,rfl,_,_,rfl,rfl,_,rfl,fV (fun c7=>?_) (fun _=>fZ (hN _ _ ⟨rfl,d3⟩))⟩;refine ⟨_,rfl,_,_,rfl,rfl,_,rfl,fV (fun cd=>?_) (fun _=>hN _ _ ⟨rfl,d3⟩)⟩;have cd:(d:Int) > 0:=of_decide_eq_true cd;obtain ⟨e,rfl⟩:∃ e,d=e + 1:=⟨d - 1,by omega⟩;have em1:((e + 1:Nat):Int) - 1=(e:Int):=by omega
  have ev:[V.ref p,V.int (((e + 1:Nat):Int) - 1),V.ref lf,V.ref lt,V.int m]=[V.ref p,.int e,.ref lf,.ref lt,.int m]:=by rw [em1]
  refine cm (cW ⟨_,rfl,_,rfl,_,rfl,p,lb,lq,2,rfl,by decide,d3.L.pu,d3.T.hb,d3.T.hq,lbs,lqs,fun vf F G4 hF dF pu4 b4=>bN ?_⟩);dsimp only;have d4:=d3.but b4 pu4;have fI:FmI bs qs G4 vf F:=⟨hF,by omega⟩;refine cm (cW ⟨_,rfl,_,rfl,_,_,rfl,rfl,_,rfl,_,rfl,_,rfl,p,lt,lb,lq,lf,m,e,ev,by omega,d4.L,d4.T,m0,m1,fun l1 xs1 ds1 G5 hl1 h1 len1 O1 t1 dp1 sz1 L5 k5=>bN ?_⟩);dsimp only;have d5:=d4.kp k5 L5;refine fb ⟨_,rfl,_,rfl,_,rfl,_,rfl,_,_,rfl,rfl,_,rfl,_,rfl,_,rfl,p,lt,lb,lq,lf,m,e,ev,by omega,d5.L,d5.T,m0,m1,fun l2 xs2 ds2 G6 hl2 h2 len2 O2 t2 dp2 sz2 L6 k6=>⟨by show 4<=aB; omega,fun t ht=>?_⟩⟩;have st:=aF ht (.tup [.str "if",vf,.ref l1,.ref l2]);have ki5:=k5.keepI d4.L.int;have ki6:=k6.keepI d5.L.int;have d6:=(d5.kp k6 L6).same st;refine k _ (.ife F ds1 ds2) _ (MJ ah (fI.keepI ((ki5.trans ki6).trans (dN.same st))) (d4.dm l1 hl1) (st _ _ (ki6 _ _ h1 O1.now.ni)) len1 ((O1.base d4.dm).keepI (ki6.trans (dN.same st))) (d5.dm l2 hl2) (st _ _ h2) len2 ((O2.base d5.dm).keepI (dN.same st))) ⟨t1,t2⟩ ?_ ?_ d6.L d6.k
  ·show max ds1.deep ds2.deep + 1<=e + 1;omega
  ·show ds1.size + ds2.size + 1<=1 + 6 * ddz e;omega
 rintro _ G4 ⟨rfl,d4⟩;clear d3
 -- end
 refine wc (fun σ' G=>σ'=[some (.ref p),some (.int d),some (.ref lf),some (.ref lt),some (.int m),some (.ref lb),some (.ref lq),some (.int pk),none,none,none]/\Dr H G p lf lt lb lq bs qs) ?_ ?_
 rotate_left
 ·intro N hN;refine hV ⟨_,rfl,rfl,_,rfl,fV (fun c7=>?_) (fun _=>fZ (hN _ _ ⟨rfl,d4⟩))⟩;refine ⟨_,rfl,p,4,rfl,d4.L.pu,by decide,by decide,fun r G5 r0 r4 pu5 b5=>⟨rfl,_,rfl,fV (fun _=>?_) (fun _=>hN _ _ ⟨rfl,d4.but b5 pu5⟩)⟩⟩;refine fb ⟨De,fun t ht=>?_⟩;have st:=aF ht (.tup [.str "end"]);have d5:=(d4.but b5 pu5).same st;exact k _ .fin _ (MI ah) trivial (bT _) dz d5.L d5.k
 rintro _ G5 ⟨rfl,d5⟩;exact fb ⟨_,rfl,_,rfl,_,rfl,p,lt,lb,lq,m,rfl,d5.L.pu,d5.T,m0,m1,snd d5⟩
theorem Jx {n kk:Nat} (hk:1<=kk) (D:Df K mg "_law_deeds" iW pLs f fd) (DE:Df K mg "_law_deed" km pLd fE fdE) (GE:bA P w K mg base CX0 kk fE fdE pLd (spLd bs qs n)) (DD:Df K mg "_law_draw" eg pD fD fdD) (B:Bl mg) :
  bA P w K mg base CX0 (kk + 1) f fd pLs (Hf bs qs n):=by
 have GD:bA P w K mg base CX0 1 fD fdD pD jx:=jF DD;refine D.F.ok MT (fun vs H Q E h=>?_) (fun cdv A outer s H vs Q E hr h=>?_)
 ·obtain ⟨p,lt,lb,lq,lf,m,d,rfl,_⟩:=h;rfl
 obtain ⟨p,lt,lb,lq,lf,m,d,rfl,dn,L,T,m0,m1,k⟩:=h;have r1:c5 1 _:=hr.mono hk;refine ⟨_,aj (bC (i:=5) MT.nd rfl (Or.inl rfl) (eS ai))
  (aj (i5 cR rfl (iU (by rfl) B.range (iN (aK GD r1 (by rfl) DD.m DD.F.kp DD.b .nil bj (bE (pv 0) (dC aw ai))) ai)) (dQ (i:=6) MT.nd rfl (Or.inl rfl)) (ay (cS (bP uE (bU dI (pv 2) aw (fun _ _=>rfl)) aw (cb _)) (aj (rG (cT jv (bU dI (pv 2) aw (fun _ _=>rfl)) aw) (xp (pv 2) aw qM))
  (ay (eI (lQ bZ cP cQ gY (pv 5) (iN (aK GE hr (by rfl) DE.m DE.F.kp DE.b .nil bj (bE (pv 0) (bE (pv 1) (bE (pv 2) (bE (pv 3) (bE (pv 4) ai)))))) ai))))) bY)))
  (ay (bM (pv 5)))),?_⟩
 have big:=dY;have mf:lf∈[p,lf]:=ag _ ax;refine cm (cW ⟨bT _,fun l0 hl0=>bN ?_⟩);have s0:=aF hl0 (.lst []);dsimp only;have n0:l0∉[p,lf]:=fun z=>by
  obtain ⟨i,r,e⟩:=L.int l0 z;rw [hl0] at e
  cases e
 have hB:upd H l0 (.lst []) l0≠none:=by
  rw [ah];intro z
  cases z
 refine cm ⟨_,rfl,p,4,rfl,L.pu.same s0,by decide,by decide,fun r G r0 r1' puG bG=>⟨r,rfl,by omega,by omega,?_⟩⟩;have LG:=(L.same s0).but bG puG;have kG:Kp [p,lf] H G:=(Kp.same s0).trans (LG.kp' bG);have kB:Kp [p,lf] (upd H l0 (.lst [])) G:=LG.kp' bG;have hl0G:G l0=some (.lst []):=bG _ _ ah (fun z=>n0 (by rw [z]; exact ax));refine pG (n:=r.toNat) (fun i σ G'=>∃ (v6:Option V),σ=[some (.ref p),some (.int d),some (.ref lf),some (.ref lt),some (.int m),some (.ref l0),v6]/\i<=3/\Gro bs qs m d (ddz d) (upd H l0 (.lst [])) G' l0 i/\Lf G' p lf/\Kp [p,lf] H G'/\Dm (upd H l0 (.lst [])) G')
  ⟨_,rfl,by decide,⟨[],.nil,hl0G,aC _,Jo,trivial,bT _,bT _⟩,LG,kG,kB.dm LG.there⟩ ?_ ?_
 ·rintro i σ G1 hi ⟨v6,rfl,i2,gr,L1,k1,dm1⟩;obtain ⟨c0,hc⟩:=L1.hl;refine hV ?_;refine ⟨_,rfl,lf,_,_,_,rfl,rfl,SqL.of hc,rfl,_,_,rfl,rfl,_,rfl,?_⟩;refine fV (fun _=>?_) (fun _=>?_)
  ·refine cm (cW ⟨_,rfl,lf,_,_,_,rfl,rfl,SqL.of hc,rfl,_,_,rfl,rfl,_,rfl,lf,_,_,0,rfl,rfl,hc,rfl,?_⟩);dsimp only;have L2':Lf (upd G1 lf (.lst ([V.int c0].set 0 (.int (c0 - 1))))) p lf:=⟨sL L1.pu L1.ne,c0 - 1,ah⟩;have k2:Kp [p,lf] G1 (upd G1 lf (.lst ([V.int c0].set 0 (.int (c0 - 1))))):=Kp.upd mf;have gr2:=gr.keepI (k2.keepI L1.int);have dm2:=dm1.trans (k2.dm L2'.there);have k2:=k1.trans k2;revert dm2 gr2 k2 L2';generalize upd G1 lf (.lst ([V.int c0].set 0 (.int (c0 - 1))))=G2;intro L2' gr2 dm2 k2;obtain ⟨xs,ds,h1,h2,h3,h4,h5,h6⟩:=gr2.ex;have T2:=T.keepI (k2.keepI L.int);refine ⟨_,rfl,.inl ⟨rfl,_,SqL.of h1⟩,_,rfl,_,rfl,_,rfl,_,rfl,_,rfl,p,lt,lb,lq,lf,m,d,rfl,dn,L2',T2,m0,m1,fun v dd G3 hO t dp' sz3 L3 k13=>?_⟩;refine ⟨l0,xs,v,rfl,rfl,k13 _ _ h1 n0,by omega,?_⟩;refine ⟨_,rfl,by omega,Gro.step n0 L2' k13 hB dm2 h1 h2 h3 h4 h5 h6 hO t dp' sz3,L3.put n0,fun b o eb nb=>aR ((k2.trans k13) b o eb nb) (av eb hl0),fun a na=>?_⟩
   by_cases ca:a=l0
   ·rw [ca,ah] at na
    cases na
   ·rw [aH ca] at na;exact dm2 a (k13.dm L3.there a na)
  ·exact ⟨_,rfl,by omega,gr.up,L1,k1,dm1⟩
 ·rintro σ G1 ⟨v6,rfl,i2,gr,L1,k1,dm1⟩;obtain ⟨xs,ds,h1,h2,h3,h4,h5,h6⟩:=gr.ex;dsimp only;refine fb ⟨_,rfl,k l0 xs ds G1 hl0 h1 (by omega) (h3.base (Dm.same s0)) h4 h5 ?_ L1 k1⟩;have:r.toNat * ddz d<=3 * ddz d:=Du _ i2;omega
theorem KD (D:Df K mg "_law_deeds" iW pLs f fd) (DE:Df K mg "_law_deed" km pLd fE fdE) (DSe:Df K mg "_law_send" kj pSd fSe fdSe) (DF:Df K mg "_law_formula" gD pFo fF fdF) (DD:Df K mg "_law_draw" eg pD fD fdD) (DW:Df K mg "_law_worth" fi pW fW fdW) (B:Bl mg):∀ n:Nat,bA P w K mg base CX0 (5 + 2 * n) f fd pLs (Hf bs qs n)
 | 0=>⟨fun vs H Q E h=>by
   obtain ⟨p,lt,lb,lq,lf,m,d,_,h,_⟩:=h;omega,fun A outer s H args us vs Q E _ _ _ _ h=>by
   obtain ⟨p,lt,lb,lq,lf,m,d,_,h,_⟩:=h;omega⟩
 | n + 1=>Jx (kk:=5 + 2 * n + 1) (by omega) D DE (Jw (by omega) DE D (KD D DE DSe DF DD DW B n) DSe DF DD DW B) DD B
end
theorem MIn.but {m:Int} {H H' H1:Hp} {p:aa} {v:V} {M:MD} (pu0:dy H p) (pu:dy H' p) (b:But p H' H1) (h:MIn m H H' v M):MIn m H H1 v M:=by
 obtain ⟨t,e,h⟩:=h;exact ⟨t,e,h.but pu0 pu b⟩
theorem MIn.old {m:Int} {B G:Hp} {a:aa} {o:HO} {v:V} {M:MD} (ol:B a≠none) (nt:∀ xs,G a≠some (.tup xs)) (h:MIn m B G v M):MIn m B (upd G a o) v M:=by
 obtain ⟨t,e,⟨bl,ql,dl,hl,vb,hv,h1,h2,h3,h4,h5,h6,h7,n1,n2,n3,n4⟩,kb,nb,nq,lb,lq,ld,lh,wb,hk⟩:=h;have ne:∀ {b:aa},B b=none->b≠a:=fun n z=>ol (z ▸ n);have tk:∀ (b:aa) (xs:List V),G b=some (.tup xs)->upd G a o b=some (.tup xs):=fun b xs e=>aR e fun z=>nt xs (z ▸ e);exact ⟨t,e,⟨bl,ql,dl,hl,vb,hv,tk _ _ h1,aR h2 (ne n1),gz.tups tk h3,aR h4 (ne n2),aR h5 (ne n3),aR h6 (ne n4),Paired.mono (fun _ _ z=>z.old ol nt) h7,n1,n2,n3,n4⟩,kb,nb,nq,lb,lq,ld,lh,wb,hk⟩
theorem yn {bs:List Str} {i:Nat} {x:V} (hi:(bs.map V.str)[i]?=some x):∃ o,bs[i]?=some o/\x=.str o:=by
 rw [cI] at hi;obtain ⟨o,ho,rfl⟩:=jk.mp hi;exact ⟨o,ho,rfl⟩
section
variable {P:aJ} {w:bJ} {K:af} {mg:Str->Option ae} {base:cu} {f fD fW fN fS:aa} {fd fdD fdW fdN fdS:bR}
seal PS PSs PE PA PT PW PI PG PGs PC
abbrev nMs:List Str:=["_law_purse_here","_law_many","_law_found","_law_name_here","_law_boxes","_law_queues","_law_draws","_law_hears","_law_sign_here"]
abbrev pMs:List Str:=["_law_purse_here"]
theorem yo:bK nMs pMs (aL gN):={}
theorem ndMs:((["_law_k"]:List Str)++nMs).Nodup:=by decide +kernel
theorem ndMs2:((["_law_box"]:List Str)++nMs).Nodup:=by decide +kernel
inductive KF (vs:List V) (H:Hp) (Q:VK) (_e:XK):Prop where
 | mk (p:aa) (_:vs=[.ref p]) (_:dy H p) (_:∀ (ml:aa) (xs:List V) (Ms:List MD) (H':Hp),H' ml=some (.lst xs)->aP (MIn Ms.length H H') xs Ms->0 < Ms.length->Ms.length<=6->ml≠p->dy H' p->But p H H'->Q (.ref ml) H'):KF vs H Q _e
def spMs:Sp:=fun vs H Q _e=>KF vs H Q _e
theorem ok_ms (D:Df K mg "_law_machines" gN pMs f fd) (DN:Df K mg "_law_names" jM pN fN fdN) (GN':bA P w K mg base CX0 3 fN fdN pN B4) (DS:Df K mg "_law_deeds" iW pLs fS fdS) (GS0:∀ bs qs,bA P w K mg base CX0 13 fS fdS pLs (Hf bs qs 4)) (DD:Df K mg "_law_draw" eg pD fD fdD) (DW:Df K mg "_law_worth" fi pW fW fdW) (B:Bl mg):bA P w K mg base CX0 14 f fd pMs spMs:=by
 have GD:bA P w K mg base CX0 1 fD fdD pD jx:=jF DD;have GW:bA P w K mg base CX0 2 fW fdW pW uq:=vC DW DD B;have GS:=bA.some (ι:=List Str×List Str) (sp:=fun q=>Hf q.1 q.2 4) (F:=fun q=>GS0 q.1 q.2);refine D.F.ok yo (fun vs H Q E h=>?_) (fun cdv A outer s H vs Q E hr h=>?_)
 ·obtain ⟨p,rfl,_⟩:=h;rfl
 obtain ⟨p,rfl,pu,k⟩:=h;have r1:c5 1 _:=hr.mono (by decide);have r2:c5 2 _:=hr.mono (by decide);have r3:c5 3 _:=hr.mono (by decide);have r13:c5 13 _:=hr;refine ⟨_,aj (bC (i:=1) yo.nd rfl (Or.inl rfl) (cT gK aw (aK GD r1 (by rfl) DD.m DD.F.kp DD.b .nil bj (bE (pv 0) (qC (bU dI (eS (dC aw (dC aw ai))) (gL pH (by rfl) B.int boot_int (ao (qJ e7 (aK GD r1 (by rfl) DD.m DD.F.kp DD.b .nil bj (bE (pv 0) (dC aw ai))) aw (cb _)) ai)) (fun _ _=>rfl)) ai)))))
  (aj (bC (i:=2) yo.nd rfl (Or.inl rfl) (eS ai))
  (aj (i5 cR rfl (i0 (aK GN' r3 (by rfl) DN.m DN.F.kp DN.b .nil bj (bE (pv 0) (bE (pv 1) (dC aw ai))))) (dQ (i:=3) yo.nd rfl (Or.inl rfl)) (aj (bC (i:=4) yo.nd rfl (Or.inl rfl) (aK GN' r3 (by rfl) DN.m DN.F.kp DN.b .nil bj (bE (pv 0) (iN (aK GD r1 (by rfl) DD.m DD.F.kp DD.b .nil bj (bE (pv 0) (dC aw ai))) (dC aw ai)))))
  (aj (bC (i:=5) yo.nd rfl (Or.inl rfl) (aK GN' r3 (by rfl) DN.m DN.F.kp DN.b .nil bj (bE (pv 0) (iN (aK GD r1 (by rfl) DD.m DD.F.kp DD.b .nil bj (bE (pv 0) (dC aw ai))) (dC aw ai)))))
  (aj (Bi (i:=6) ["_law_k"] (iF.open (NN:=nMs) (N:=nMs) (sc:=aL gN) rfl rfl (by decide +kernel) rfl (by decide +kernel) (by decide +kernel) rfl (by decide +kernel)) rfl yo.nd rfl (Or.inl rfl) (iU (by rfl) B.range (iN (aK GD r1 (by rfl) DD.m DD.F.kp DD.b .nil bj (bE (pv 0) (dC aw ai))) ai)) (fun _ _ _ _=>dQ (i:=0) ndMs rfl (Or.inl rfl)) (fun _ _ _ _=>j0) (fun _ _ _ _=>aK GD r1 (by rfl) DD.m DD.F.kp DD.b .nil bj (bE (pv 1) (dC aw ai))))
  (aj (bC (i:=7) yo.nd rfl (Or.inl rfl) (eS ai))
  (aj (i5 cR rfl (i0 (qL tW (eS (dC bX (dC bX (dC bX ai)))) tU (tV (cT gK aw (aK GD r1 (by rfl) DD.m DD.F.kp DD.b .nil bj (bE (pv 0) (dC aw ai))))))) (dQ (i:=8) yo.nd rfl (Or.inl rfl)) (ay (eI (lQ bZ cP cQ gY (pv 7) (vA (dR (bE (pv 8) (iN (aK GS r13 (by rfl) DS.m DS.F.kp DS.b .nil bj (bE (pv 0) (dC aw (MA (eS (dC aw ai)) (vA (dR (bE (pv 4) (bE (pv 5) ai))) (bE (pv 1) ai)))))) ai))) ai) (hs:=zC)))))
  (ay (eI (lQ bZ cP cQ gY (pv 2) (vA (dR (bE (pv 3) (ao (mU ["_law_box"] (iF.open (NN:=nMs) (N:=nMs) (sc:=aL gN) rfl rfl (by decide +kernel) rfl (by decide +kernel) (by decide +kernel) rfl (by decide +kernel)) rfl (i0 (pv 4)) (fun _ _ _ _=>dQ (i:=0) ndMs2 rfl (Or.inl rfl)) (fun _ _ _ _=>j0) (fun _ _ _ _=>dR (bE (pv 0) (iN (aK GW r2 (by rfl) DW.m DW.F.kp DW.b .nil bj (bE (pv 1) ai)) ai)))) (bE (pv 5) (bE (pv 6) (bE (pv 7) ai)))))) ai) (hs:=zC))))))))))
  (ay (bM (pv 2))))),?_⟩
 have big:=dY;refine cm (cW ⟨_,rfl,lt2,fun l0 hl0=>?_⟩);have s0:=aF hl0 (.lst [.int 4,.int 6]);refine ⟨_,rfl,p,8,rfl,pu.same s0,by decide,by decide,fun r G r0 r8 puG bG=>⟨rfl,.inr ⟨_,rfl,l0,_,_,_,rfl,rfl,SqL.of (bG _ _ ah (rh pu hl0)),ym,?_⟩⟩⟩;obtain ⟨mm,em,mm0⟩:∃ m:Int,(if decide (V.int r=V.int 7)=true then V.int 6 else V.int 4)=.int m/\(0 < m/\m<=6):=by
  by_cases c:V.int r=V.int 7
  ·rw [decide_eq_true c];exact ⟨6,rfl,by decide⟩
  ·rw [decide_eq_false c];exact ⟨4,rfl,by decide⟩
 rw [em];refine ⟨p,mm,rfl,puG,mm0.1,by omega,fun x G1 x0 x1 pu1 b1=>⟨_,_,rfl,rfl,bN ?_⟩⟩;obtain ⟨m,hm,m0,m6⟩:∃ m:Nat,1 + x=(m:Int)/\0 < m/\m<=6:=⟨(1 + x).toNat,by omega,by omega,by omega⟩;dsimp only;rw [hm];have b1:But p H G1:=((But.same (But.refl p H) s0).trans bG).trans b1;clear bG puG s0 hl0;refine cm (cW ⟨bT _,fun fl hfl=>bN ?_⟩);have sf:=aF hfl (.lst []);dsimp only;have pu2:=pu1.same sf;have b2:=b1.same sf;have hf2:upd G1 fl (.lst []) fl=some (.lst []):=ah;have nfp:fl≠p:=rh pu1 hfl;have Hfl:H fl=none:=b1.dm pu1 fl hfl;revert pu2 b2 hf2;generalize upd G1 fl (.lst [])=G2;intro pu2 b2 hf2;have f2n:G2 fl≠none:=fun z=>by
  rw [hf2] at z
  cases z
 refine cm ⟨_,rfl,_,rfl,p,m,0,rfl,pu2,by omega,by omega,fun ln ss G3 hln hlnG lss nd pu3 b3=>⟨ln,rfl,⟨_,SqL.of hlnG⟩,?_⟩⟩;have nln:ln≠p:=rp pu3 hlnG;have nlf:ln≠fl:=fun z=>f2n (z ▸ hln);refine jG (K:=K) (a:=ln) (xs:=ss.map V.str) (fun i σ G=>∃ (u3 u4 u5 u6 u7 u8:Option V) (xs:List V) (Ms:List MD),σ=[some (.ref p),some (.int m),some (.ref fl),u3,u4,u5,u6,u7,u8]/\G ln=some (.lst (ss.map V.str))/\G fl=some (.lst xs)/\aP (MIn m G2 G) xs Ms/\Ms.length=i/\dy G p/\Kp [p,fl] G2 G)
  ⟨_,_,_,_,_,_,[],[],rfl,hlnG,b3 _ _ hf2 nfp,.nil,rfl,pu3,Kp.but b3 ax⟩ ?_ ?_ ?_
 ·rintro i σ G _ ⟨_,_,_,_,_,_,_,_,rfl,h,_⟩;exact SqL.of h
 ·rintro i v σ G hi ⟨u3,u4,u5,u6,u7,u8,xs,Ms,rfl,hG,hfG,pM,lM,puG,kG⟩;obtain ⟨nm,hnm,rfl⟩:=yn hi;have il:=(aE.mp hnm).1;refine bN ?_;dsimp only
  -- the boxes' names, the queues
  refine cm (cW ⟨_,rfl,_,rfl,p,4,rfl,puG,by decide,by decide,fun r Ga r0 r4 pua ba=>?_⟩);obtain ⟨r,rfl⟩:∃ n:Nat,r=(n:Int):=⟨r.toNat,by omega⟩;refine ⟨p,r,0,rfl,pua,by omega,by omega,fun lb bs Gb hlb hlbG lbs ndb pub bb=>bN ?_⟩;dsimp only;have bGb:But p G Gb:=ba.trans bb;have nlb:lb≠p:=rp pub hlbG;refine cm (cW ⟨_,rfl,_,rfl,p,3,rfl,pub,by decide,by decide,fun r' Gc r0' r4' puc bc=>?_⟩);obtain ⟨r',rfl⟩:∃ n:Nat,r'=(n:Int):=⟨r'.toNat,by omega⟩;refine ⟨p,r',8,rfl,puc,by omega,by omega,fun lq qs Gd hlq hlqG lqs ndq pud bd=>bN ?_⟩;dsimp only;have bGc:But p G Gc:=bGb.trans bc;have bGd:But p G Gd:=bGc.trans bd;have nlq:lq≠p:=rp pud hlqG;have Glq:G lq=none:=bGc.dm puc lq hlq;have hlbD:=bd _ _ (bc _ _ hlbG nlb) nlb;clear ba bb bc bd pua pub puc
  -- the draws
  refine cm (cW ?_);refine sJ (fun n G'=>n < 4/\dy G' p/\But p Gd G') (fun R hR=>⟨_,rfl,p,4,rfl,pud,by decide,by decide,fun x G' x0 x1 pu b=>by
    obtain ⟨n,rfl⟩:∃ n:Nat,x=(n:Int):=⟨x.toNat,by omega⟩;exact hR n G' ⟨by omega,pu,b⟩⟩) (fun n G' h=>by have:=h.1; omega) (fun n _ i ys G'=>∃ ds:List Int,ys=ds.map V.int/\ds.length=i/\dy G' p/\But p Gd G') (fun n G' h=>⟨[],rfl,rfl,h.2.1,h.2.2⟩) ?_ ?_ ?_
  ·rintro n G0 h i ys G' hi ⟨ds,rfl,h1,_⟩;rw [ar];have:=h.1;omega
  ·rintro n G0 h i ys G' hi ⟨ds,rfl,h1,pu,b⟩;refine ⟨rfl,?_⟩;unfold vU;refine iL ?_;refine ⟨_,rfl,p,100,rfl,pu,by decide,by decide,fun x Ga x0 x1 pua ba=>?_⟩;exact ⟨ds++[x],by rw [cg]; rfl,by rw [aA,h1]; rfl,pua,b.trans ba⟩
  rintro n G0 hn ys Ge ⟨ds,rfl,lds,pue,be⟩ dl hdl;have ld:ds.length<=100:=by have:=hn.1; omega
  have sdl:=aF hdl (.lst (ds.map V.int));refine bN ?_;dsimp only;have Gdl:G dl=none:=bGd.dm pud dl (be.dm pue dl hdl);have ndl:dl≠p:=rh pue hdl
  -- what it hears
  refine cm (cW ⟨bT _,fun hl hhl=>bN ?_⟩);have shl:=aF hhl (.lst []);have sD:=sdl.trans shl;dsimp only;have Ghl:G hl=none:=bGd.dm pud hl (be.dm pue hl (none_of sdl hhl));have puF:=pue.same sD;have bF:But p G (upd (upd Ge dl (.lst (ds.map V.int))) hl (.lst [])):=(bGd.trans be).same sD;have hlbF:=sD _ _ (be _ _ hlbD nlb);have hlqF:=sD _ _ (be _ _ hlqG nlq);have hdlF:=shl _ _ (jj hdl (.lst (ds.map V.int)));have hhlF:=jj hhl (.lst []);have nhp:hl≠p:=rh (pue.same sdl) hhl;have nh:lb≠hl/\lq≠hl/\dl≠hl:=⟨av (sdl _ _ (be _ _ hlbD nlb)) hhl,av (sdl _ _ (be _ _ hlqG nlq)) hhl,av (jj hdl _) hhl⟩;revert puF bF hlbF hlqF hdlF hhlF;clear sD shl sdl hdl hhl be pue hlbD hlqG bGd pud hn;generalize upd (upd Ge dl (.lst (ds.map V.int))) hl (.lst [])=GF;intro puF bF hlbF hlqF hdlF hhlF;have hFn:GF hl≠none:=fun z=>by
   rw [hhlF] at z
   cases z
  -- its signs
  refine cm ⟨by show 3<=aB; omega,fun l3 hl3=>?_⟩;have s3:=aF hl3 (.lst [.str "go",.str "on",.str "stop"]);refine ⟨_,rfl,p,3,rfl,puF.same s3,by decide,by decide,fun r Gg r0 r3 pug bg=>⟨_,_,rfl,rfl,_,rfl,l3,_,rfl,SqL.of (bg _ _ ah (rh puF hl3)),fun sl hsl=>?_⟩⟩;obtain ⟨zs,lz,eq⟩:∃ zs:List Str,zs.length<=3/\lC [V.str "go",.str "on",.str "stop"] none (some (1 + r))=zs.map V.str:=by
   have cs:r=0\/r=1\/r=2:=by omega
   rcases cs with rfl | rfl | rfl
   ·exact ⟨["go"],by decide,rfl⟩
   ·exact ⟨["go","on"],by decide,rfl⟩
   ·exact ⟨["go","on","stop"],by decide,rfl⟩
  rw [eq];have ssl:=aF hsl (.lst (zs.map V.str));have bFg:=((But.refl p GF).same s3).trans bg;have nsp:sl≠p:=rh pug hsl;have nsh:sl≠hl:=(av (bFg _ _ hhlF nhp) hsl).symm;have puI:=pug.same ssl;have kI:Kp [p,hl] GF (upd Gg sl (.lst (zs.map V.str))):=(Kp.but (bFg) ax).trans (Kp.same ssl);have hhlI:=ssl _ _ (bFg _ _ hhlF nhp);have hslI:=jj hsl (.lst (zs.map V.str));revert puI kI hhlI hslI;clear ssl hsl eq bFg bg pug s3 hl3;generalize upd Gg sl (.lst (zs.map V.str))=GI;intro puI kI hhlI hslI;have nin:∀ {a:aa},a≠p->a≠hl->a∉[p,hl]:=fun n1 n2 z=>by
   simp only [au,aS,or_false] at z;exact z.elim n1 n2
  have thr:∀ {G':Hp},dy G' p->(∃ o,G' hl=some o)->∀ a∈[p,hl],∃ o,G' a=some o:=fun pu h a z=>by
   simp only [au,aS,or_false] at z
   rcases z with rfl | rfl
   ·obtain ⟨x,y,e⟩:=pu;exact ⟨_,e⟩
   ·exact h
  refine ⟨sl,rfl,⟨_,SqL.of hslI⟩,?_⟩;refine jG (K:=K) (a:=sl) (xs:=zs.map V.str) (fun j σ G'=>∃ (u8:Option V) (hv:List V) (hs:List (Str×Ds)),σ=[some (.ref p),some (.int m),some (.ref fl),some (.str nm),some (.ref lb),some (.ref lq),some (.ref dl),some (.ref hl),u8]/\G' sl=some (.lst (zs.map V.str))/\G' hl=some (.lst hv)/\aP (HsO bs qs GF G') hv hs/\hs.length=j/\(∀ q∈hs,q.2.toOk m/\q.2.deep<=4/\q.2.size<=3 * ddz 4)/\dy G' p/\Kp [p,hl] GF G')
   ⟨_,[],[],rfl,hslI,hhlI,.nil,rfl,(fun q hq=>by cases hq),puI,kI⟩ ?_ ?_ ?_
  ·rintro j σ G' _ ⟨_,_,_,rfl,h,_⟩;exact SqL.of h
  ·rintro j v σ G' hj ⟨u8,hv,hs,rfl,hslG,hhlG,phs,lhs,okh,puG',kG'⟩;obtain ⟨sg,hsg,rfl⟩:=yn hj;have jl:=(aE.mp hsg).1;have lhv:=aZ phs;have dmG':Dm GF G':=kG'.dm (thr puG' ⟨_,hhlG⟩);refine bN ?_;dsimp only;refine ⟨_,rfl,.inl ⟨rfl,_,SqL.of hhlG⟩,_,rfl,_,rfl,De,fun lf hlf=>⟨_,rfl,_,rfl,lt2,fun lt hlt=>⟨_,rfl,?_⟩⟩⟩;have sf':=aF hlf (.lst [.int 12]);have st':=aF hlt (.tup [.ref lb,.ref lq]);have s2:=sf'.trans st';have L:Lf (upd (upd G' lf (.lst [.int 12])) lt (.tup [.ref lb,.ref lq])) p lf:=⟨puG'.same s2,12,st' _ _ ah⟩;have T:Th (upd (upd G' lf (.lst [.int 12])) lt (.tup [.ref lb,.ref lq])) lt lb lq bs qs:=⟨ah,s2 _ _ (kG' _ _ hlbF (nin nlb nh.1)),s2 _ _ (kG' _ _ hlqF (nin nlq nh.2.1)),by omega,by omega⟩;refine ⟨(bs,qs),p,lt,lb,lq,lf,m,3,rfl,by decide,L,T,by omega,by omega,fun l ys dd Gk hl1 h1 len1 O1 t1 dp1 sz1 Lk kk=>⟨lt2,fun t ht=>?_⟩⟩;have st:=aF ht (.tup [.str sg,.ref l])
   -- all but the purse stays
   have kp:Kp [p] G' Gk:=fun b o e nb=>kk _ _ (s2 _ _ e) fun z=>by
    simp only [au,aS,or_false] at z
    rcases z with z | z
    ·exact nb (by simp [z])
    ·rw [z,hlf] at e
     cases e
   have ki:dN G' Gk:=kp.keepI fun a ha=>by
    obtain ⟨x,y,e⟩:=puG';rw [aD.mp ha];exact ⟨x,_,e⟩
   have hhl4:=kp _ _ hhlG (by simpa using nhp);have hhl5:=st _ _ hhl4;refine ⟨hl,hv,.ref t,rfl,rfl,hhl5,by omega,?_⟩;have nt5:∀ ys,upd Gk t (.tup [.str sg,.ref l]) hl≠some (.tup ys):=fun ys z=>by
    rw [hhl5] at z
    cases z
   have dm2:Dm G' (upd (upd G' lf (.lst [.int 12])) lt (.tup [.ref lb,.ref lq])):=Dm.same s2;have new:HsO bs qs GF (upd Gk t (.tup [.str sg,.ref l])) (.ref t) (sg,dd):=⟨t,l,ys,rfl,ah,dmG' l (dm2 l hl1),st _ _ h1,by omega,(O1.base (dmG'.trans dm2)).keepI (dN.same st)⟩;refine ⟨_,hv++[.ref t],hs++[(sg,dd)],rfl,aR (st _ _ (kp _ _ hslG (by simpa using nsp))) nsh,ah,?_,by rw [aA,lhs]; rfl,fun q hq=>?_,sL (Lk.pu.same st) nhp,fun b o' e nb=>?_⟩
   ·exact eD (Paired.mono (fun v q z=>(z.keepI (ki.trans (dN.same st))).old hFn nt5) phs) (new.old hFn nt5)
   ·rcases cq.mp hq with z | z
    ·exact okh q z
    ·rw [aD.mp z];exact ⟨t1,cZ dp1 (by decide),cZ sz1 (by decide)⟩
   ·have nb2:b≠hl:=fun z=>nb (by simp [z]);rw [aH nb2];exact st _ _ (kp _ _ (kG' _ _ e nb) fun z=>nb (by simp only [aD] at z; simp [z]))
  ·rintro σ G' ⟨u8,hv,hs,rfl,hslG,hhlG,phs,lhs,okh,puG',kG'⟩;dsimp only;rw [ar] at lhs;have bG':But p G G':=fun b o e nb=>kG' _ _ (bF _ _ e nb) (nin nb (av e Ghl));have hfl':=bG' _ _ hfG nfp;have hlbG':=kG' _ _ hlbF (nin nlb nh.1);have lxs:=aZ pM;rw [lss] at il;refine ⟨_,rfl,.inl ⟨rfl,_,SqL.of hfl'⟩,_,rfl,?_⟩;refine vB (K:=K) (a:=lb) (xs:=bs.map V.str) (fun R h=>⟨_,rfl,h⟩) (SqL.of hlbG') (fun j ys Gx=>∃ ps:List (Str×Int),gz Gx ps ys/\ps.map (·.1)=bs.take j/\(∀ q∈ps,Wo q.2)/\dy Gx p/\But p G' Gx) ⟨[],.nil,rfl,(fun q hq=>by cases hq),puG',But.refl _ _⟩ ?_ ?_ ?_
   ·rintro j ys Gx hj ⟨ps,h5,h6,h7,h8,h9⟩;have l5:=h5.length;have l6:=congrArg ja h6;rw [ar,df] at l6;exact ⟨SqL.of (h9 _ _ hlbG' nlb),by omega⟩
   ·rintro j v ys Gx hj ⟨ps,h5,h6,h7,h8,h9⟩;obtain ⟨o,ho,rfl⟩:=yn hj;refine ⟨rfl,?_⟩;unfold vU;refine iL ?_;refine ⟨_,rfl,_,rfl,p,rfl,h8,fun x Gy x0 x1 puy by'=>⟨lt2,fun t ht=>?_⟩⟩;have st:=aF ht (.tup [.str o,.int x]);refine ⟨ps++[(o,x)],?_,?_,fun q hq=>?_,puy.same st,(h9.trans by').same st⟩
    ·unfold gz;rw [cg];exact eD (gz.tups (fun t xs e=>st _ _ (dN.but h8 by' _ _ e (lK xs))) h5) ⟨t,rfl,ah⟩
    ·rw [cg,h6,e9,ho];rfl
    ·rcases cq.mp hq with z | z
     ·exact h7 q z
     ·rw [aD.mp z];exact ⟨x0,x1⟩
   rintro vb Gx ⟨ps,hbx,kb,wb,pux,bx⟩ bl hbl;rw [ar,dZ] at kb;have sbl:=aF hbl (.lst vb);refine ⟨_,rfl,_,rfl,_,rfl,by show 5<=aB; omega,fun t ht=>?_⟩;have st:=aF ht (.tup [.str nm,.ref bl,.ref lq,.ref dl,.ref hl]);have sZ:=sbl.trans st;have bz:=bx.same sZ;have bGz:=bG'.trans bz;have kbx:=(dN.but puG' bx).trans (dN.same sZ);have Gbl:G bl=none:=bG'.dm puG' bl (bx.dm pux bl hbl);have dmF:Dm G GF:=bF.dm puF;have mch:Mch m G (upd (upd Gx bl (.lst vb)) t (.tup [.str nm,.ref bl,.ref lq,.ref dl,.ref hl])) t nm bs qs ds hs ps:=⟨⟨bl,lq,dl,hl,vb,hv,ah,st _ _ ah,gz.same sZ hbx,bz _ _ (kG' _ _ hlqF (nin nlq nh.2.1)) nlq,bz _ _ (kG' _ _ hdlF (nin ndl nh.2.2)) ndl,bz _ _ hhlG nhp,Paired.mono (fun v q z=>(z.keepI kbx).base dmF) phs,Gbl,Glq,Gdl,Ghl⟩,kb,ndb,ndq,by omega,by omega,ld,by omega,wb,okh⟩;have hflz:=bGz _ _ hfG nfp;have ntz:∀ ys,upd (upd Gx bl (.lst vb)) t (.tup [.str nm,.ref bl,.ref lq,.ref dl,.ref hl]) fl≠some (.tup ys):=fun ys z=>by
    rw [hflz] at z
    cases z
   have dm2:Dm G2 G:=kG.dm fun a z=>by
    simp only [au,aS,or_false] at z
    rcases z with rfl | rfl
    ·obtain ⟨x,y,e⟩:=puG;exact ⟨_,e⟩
    ·exact ⟨_,hfG⟩
   refine ⟨fl,xs,.ref t,rfl,rfl,hflz,by omega,?_⟩;refine ⟨_,_,_,_,_,_,xs++[.ref t],Ms++[⟨nm,bs,qs,ds,hs,ps⟩],rfl,aR (bGz _ _ hG nln) nlf,ah,?_,by rw [aA,lM]; rfl,sL (pux.same sZ) nfp,fun b o e nb=>?_⟩
   ·exact eD (Paired.mono (fun v M z=>(z.but pu2 puG bGz).old f2n ntz) pM) (MIn.old f2n ntz ⟨t,rfl,mch.base dm2⟩)
   ·have n1:b≠fl:=fun z=>nb (by simp [z]);have n2:b≠p:=fun z=>nb (by simp [z]);rw [aH n1];exact bGz _ _ (kG _ _ e nb) n2
 ·rintro σ G ⟨u3,u4,u5,u6,u7,u8,xs,Ms,rfl,hG,hfG,pM,lM,puG,kG⟩;dsimp only;rw [ar,lss] at lM;have bH:But p H G:=fun b o e nb=>kG _ _ (b2 _ _ e nb) fun z=>by
   simp only [au,aS,or_false] at z;exact z.elim nb (av e Hfl)
  have dm2:Dm H G2:=b2.dm pu2;exact fb ⟨_,rfl,k fl xs Ms G hfG (by rw [lM]; exact Paired.mono (fun v M ⟨t,e,z⟩=>⟨t,e,z.base dm2⟩) pM) (by omega) (by omega) nfp puG bH⟩
end
theorem Jy {r:Int} (h0:0<=r) (h1:r < 4):∃ x:Str,atI [V.str "go",.str "on",.str "stop",.str "odd"] r=some (.str x):=by
 obtain ⟨x,hx,_⟩:=jR (bs:=["go","on","stop","odd"]) h0 h1;exact ⟨x,hx⟩
section
variable {P:aJ} {w:bJ} {K:af} {mg:Str->Option ae} {base:cu} {f fD fW fSg:aa} {fd fdD fdW fdSg:bR}
seal PS PSs PE PA PT PW PI PG PGs PC
abbrev nSg:List Str:=["_law_purse_here","_law_many","_law_time","_law_rank","_law_to","_law_sign_here"]
abbrev pSg:List Str:=["_law_purse_here","_law_many"]
theorem Hg:bK nSg pSg (aL ng):={}
inductive KG (vs:List V) (H:Hp) (Q:VK) (_e:XK):Prop where
 | mk (p:aa) (m:Nat) (_:vs=[.ref p,.int m]) (_:dy H p) (_:0 < m) (_:m < 1000) (_:∀ (v:V) (e:Ev) (H':Hp),v9 H' v e->zw m e->dy H' p->But p H H'->Q v H'):KG vs H Q _e
def spSg:Sp:=fun vs H Q _e=>KG vs H Q _e
theorem ok_sg (D:Df K mg "_law_sign" ng pSg f fd) (DD:Df K mg "_law_draw" eg pD fD fdD) (DW:Df K mg "_law_worth" fi pW fW fdW) (B:Bl mg):bA P w K mg base CX0 3 f fd pSg spSg:=by
 have GD:bA P w K mg base CX0 1 fD fdD pD jx:=jF DD;have GW:bA P w K mg base CX0 2 fW fdW pW uq:=vC DW DD B;refine D.F.ok Hg (fun vs H Q E h=>?_) (fun cdv A outer s H vs Q E hr h=>?_)
 ·obtain ⟨p,m,rfl,_⟩:=h;rfl
 obtain ⟨p,m,rfl,pu,m0,m1,k⟩:=h;have r1:c5 1 _:=hr.mono (by decide);have r2:c5 2 _:=hr;refine ⟨_,aj (bC (i:=2) Hg.nd rfl (Or.inl rfl) (aK GD r1 (by rfl) DD.m DD.F.kp DD.b .nil bj (bE (pv 0) (qC (bU dI (eS (dC aw (rg (cT gK (cT rK aw aw) aw) ai))) (gL pH (by rfl) B.int boot_int (ao (qJ e7 (aK GD r1 (by rfl) DD.m DD.F.kp DD.b .nil bj (bE (pv 0) (dC aw ai))) aw (cb _)) ai)) (fun _ _=>rfl)) ai))))
  (aj (bC (i:=3) Hg.nd rfl (Or.inl rfl) (aK GD r1 (by rfl) DD.m DD.F.kp DD.b .nil bj (bE (pv 0) (dC aw ai))))
  (aj (bC (i:=4) Hg.nd rfl (Or.inl rfl) (aK GD r1 (by rfl) DD.m DD.F.kp DD.b .nil bj (bE (pv 0) (bE (pv 1) ai))))
  (aj (bC (i:=5) Hg.nd rfl (Or.inl rfl) (bU dI (eS (dC bX (dC bX (dC bX (dC bX ai))))) (aK GD r1 (by rfl) DD.m DD.F.kp DD.b .nil bj (bE (pv 0) (dC aw ai))) (fun _ _=>rfl)))
  (ay (bM (dR (bE (pv 2) (bE (pv 3) (bE (pv 4) (bE (pv 5) (iN (aK GW r2 (by rfl) DW.m DW.F.kp DW.b .nil bj (bE (pv 0) ai)) (iN (aK GW r2 (by rfl) DW.m DW.F.kp DW.b .nil bj (bE (pv 0) ai)) ai)))))))))))),?_⟩
 have big:=dY;have c6:Cm 10 6:=⟨by decide,by decide,by decide⟩;refine cm (cW ⟨_,rfl,_,_,rfl,rfl,c6,_,_,rfl,rfl,lt2,fun l0 hl0=>?_⟩);have s0:=aF hl0 (.lst [.int 12,.int ((10:Int) ^ (6:Int).toNat + 1)]);refine ⟨_,rfl,p,8,rfl,pu.same s0,by decide,by decide,fun r G r0 r8 puG bG=>⟨rfl,.inr ⟨_,rfl,l0,_,_,_,rfl,rfl,SqL.of (bG _ _ ah (rh pu hl0)),ym,?_⟩⟩⟩;obtain ⟨mm,em,mm0⟩:∃ m:Int,(if decide (V.int r=V.int 7)=true then V.int ((10:Int) ^ (6:Int).toNat + 1) else V.int 12)=.int m/\(0 < m/\m<=1000001):=by
  by_cases c:V.int r=V.int 7
  ·rw [decide_eq_true c];exact ⟨_,rfl,by decide⟩
  ·rw [decide_eq_false c];exact ⟨12,rfl,by decide⟩
 refine zz ?_;show jx [V.ref p,(if decide (V.int r=V.int 7)=true then V.int ((10:Int) ^ (6:Int).toNat + 1) else V.int 12)] _ _ _;rw [em];refine ⟨p,mm,rfl,puG,mm0.1,by omega,fun ti G1 ti0 ti1 pu1 b1=>bN ?_⟩;have b1:But p H G1:=((But.same (But.refl p H) s0).trans bG).trans b1;clear bG puG s0 hl0;dsimp only;refine cm (cW ⟨_,rfl,p,10,rfl,pu1,by decide,by decide,fun rk G2 rk0 rk1 pu2 b2=>bN ?_⟩);dsimp only;refine cm (cW ⟨_,rfl,_,rfl,p,m,rfl,pu2,by omega,by omega,fun to G3 to0 to1 pu3 b3=>bN ?_⟩);dsimp only;refine cm (cW ⟨by show 4<=aB; omega,fun l3 hl3=>?_⟩);have s3:=aF hl3 (.lst [.str "go",.str "on",.str "stop",.str "odd"]);refine ⟨_,rfl,p,4,rfl,pu3.same s3,by decide,by decide,fun x G4 x0 x4 pu4 b4=>?_⟩;obtain ⟨sg,hsg⟩:=Jy x0 x4;refine ⟨l3,_,_,_,rfl,rfl,SqL.of (b4 _ _ ah (rh pu3 hl3)),hsg,bN ?_⟩;dsimp only;refine fb ⟨_,rfl,_,rfl,_,rfl,_,rfl,_,rfl,p,rfl,pu4,fun va G5 a0 a1 pu5 b5=>⟨_,rfl,p,rfl,pu5,fun vb G6 c0 c1 pu6 b6=>⟨by show 6<=aB; omega,fun t ht=>?_⟩⟩⟩;have st:=aF ht (.tup [.int ti,.int rk,.int to,.str sg,.int va,.int vb]);exact k _ ⟨ti,rk,0,0,to,sg,va,vb⟩ _ ⟨t,rfl,ah⟩ ⟨to0,to1,sO ⟨by show -1000000<=ti; omega,by show ti<=1000000; omega⟩,⟨a0,a1⟩,⟨c0,c1⟩⟩ (pu6.same st) (((((((b1.trans b2).trans b3).same s3).trans b4).trans b5).trans b6).same st)
abbrev nSs:List Str:=["_law_purse_here","_law_many"]
abbrev pSs:List Str:=["_law_purse_here","_law_many"]
theorem scSs:bK nSs pSs (aL jN):={}
theorem ndSs:((["_law_k"]:List Str)++nSs).Nodup:=by decide +kernel
inductive KH (vs:List V) (H:Hp) (Q:VK) (_e:XK):Prop where
 | mk (p:aa) (m:Nat) (_:vs=[.ref p,.int m]) (_:dy H p) (_:0 < m) (_:m < 1000) (_:∀ (l:aa) (svs:List V) (es:List Ev) (H':Hp),H' l=some (.lst svs)->aP (v9 H') svs es->es.length < 64->(∀ e∈es,zw m e)->l≠p->dy H' p->But p H H'->Q (.ref l) H'):KH vs H Q _e
def spSs:Sp:=fun vs H Q _e=>KH vs H Q _e
theorem ok_ss (D:Df K mg "_law_signs" jN pSs f fd) (DSg:Df K mg "_law_sign" ng pSg fSg fdSg) (DD:Df K mg "_law_draw" eg pD fD fdD) (DW:Df K mg "_law_worth" fi pW fW fdW) (B:Bl mg):bA P w K mg base CX0 4 f fd pSs spSs:=by
 have GD:bA P w K mg base CX0 1 fD fdD pD jx:=jF DD;have GSg:bA P w K mg base CX0 3 fSg fdSg pSg spSg:=ok_sg DSg DD DW B;refine D.F.ok scSs (fun vs H Q E h=>?_) (fun cdv A outer s H vs Q E hr h=>?_)
 ·obtain ⟨p,m,rfl,_⟩:=h;rfl
 obtain ⟨p,m,rfl,pu,m0,m1,k⟩:=h;have r1:c5 1 _:=hr.mono (by decide);have r3:c5 3 _:=hr;refine ⟨_,ay (bM (mU ["_law_k"] (iF.open (NN:=nSs) (N:=nSs) (sc:=aL jN) rfl rfl (by decide +kernel) rfl (by decide +kernel) (by decide +kernel) rfl (by decide +kernel)) rfl (iU (by rfl) B.range (iN (aK GD r1 (by rfl) DD.m DD.F.kp DD.b .nil bj (bE (pv 0) (qC (bU dI (eS (dC aw (dC aw ai))) (gL pH (by rfl) B.int boot_int (ao (qJ e7 (aK GD r1 (by rfl) DD.m DD.F.kp DD.b .nil bj (bE (pv 0) (dC aw ai))) aw (cb _)) ai)) (fun _ _=>rfl)) ai))) ai)) (fun _ _ _ _=>dQ (i:=0) ndSs rfl (Or.inl rfl)) (fun _ _ _ _=>j0) (fun _ _ _ _=>aK GSg r3 (by rfl) DSg.m DSg.F.kp DSg.b .nil bj (bE (pv 1) (bE (pv 2) ai))))),?_⟩;have big:=dY;refine fb ?_;refine sJ (fun n G=>n < 20/\dy G p/\But p H G) (fun R hR=>⟨_,rfl,lt2,fun l0 hl0=>?_⟩) (fun n G h=>by have:=h.1; omega) (fun n _ i ys G=>∃ es:List Ev,aP (v9 G) ys es/\es.length=i/\(∀ e∈es,zw m e)/\dy G p/\But p H G) (fun n G h=>⟨[],.nil,rfl,(fun e he=>by cases he),h.2.1,h.2.2⟩) ?_ ?_ ?_
 ·have s0:=aF hl0 (.lst [.int 6,.int 20]);refine ⟨_,rfl,p,6,rfl,pu.same s0,by decide,by decide,fun r G r0 r8 puG bG=>⟨rfl,.inr ⟨_,rfl,l0,_,_,_,rfl,rfl,SqL.of (bG _ _ ah (rh pu hl0)),ym,?_⟩⟩⟩;obtain ⟨mm,em,mm0⟩:∃ m:Int,(if decide (V.int r=V.int 5)=true then V.int 20 else V.int 6)=.int m/\(0 < m/\m<=20):=by
   by_cases c:V.int r=V.int 5
   ·rw [decide_eq_true c];exact ⟨20,rfl,by decide⟩
   ·rw [decide_eq_false c];exact ⟨6,rfl,by decide⟩
  rw [em];refine ⟨p,mm,rfl,puG,mm0.1,by omega,fun x G1 x0 x1 pu1 b1=>?_⟩;obtain ⟨n,rfl⟩:∃ n:Nat,x=(n:Int):=⟨x.toNat,by omega⟩;exact hR n G1 ⟨by omega,pu1,((But.same (But.refl p H) s0).trans bG).trans b1⟩
 ·rintro n G0 h i ys G hi ⟨es,h1,h2,_⟩;have:=h.1;have:=aZ h1;omega
 ·rintro n G0 h i ys G hi ⟨es,h1,h2,h3,puG,bG⟩;refine ⟨rfl,?_⟩;unfold vU;refine iL ?_;refine ⟨_,rfl,_,rfl,p,m,rfl,puG,m0,m1,fun v e G1 hv he pu1 b1=>⟨es++[e],eD (Paired.mono (fun v e ⟨t,e',h⟩=>⟨t,e',dN.but puG b1 _ _ h (lK _)⟩) h1) hv,by rw [aA,h2]; rfl,fun e' h'=>?_,pu1,bG.trans b1⟩⟩
  rcases cq.mp h' with z | z
  ·exact h3 e' z
  ·rw [aD.mp z];exact he
 ·rintro n G0 h ys G ⟨es,h1,h2,h3,puG,bG⟩ l hl;have st:=aF hl (.lst ys);exact k l ys es _ ah (Paired.mono (fun _ _ z=>z.same st) h1) (by have:=h.1; omega) h3 (rh puG hl) (puG.same st) (bG.same st)
end
end My
namespace L2
open PySem PySem.Spec PyProof.Rows
theorem Jz {vs:List ae} {ns:List Int} (h:eF vs ns):cU (ns.map V.int) vs:=by
 induction h with
 | nil=>exact .nil
 | cons n t _ ih=>exact .cons ⟨t,rfl⟩ ih
section
variable {prog:aJ} {w:bJ} {A:bS} {E:ae->ak->Prop} {s:ak}
theorem yp {K:Type} [DecidableEq K] {knd:JI prog w K} {d:aa} {kvs:List (K×ae)} {ss:List Int} {Q:ae->ak->Prop} (hh:A.handled=none) (lo:(d == eQ)=false) (hm:s.heap.DictOf knd d kvs) (h64:kvs.length < 64)
  (hk:∀ vs:List ae,vs.length=kvs.length->(∀ (j:Nat) (v:ae),vs[j]?=some v->∃ k x,kvs[j]?=some (k,x)/\knd.is k v=true)->eF vs ss)
  (h:∀ (h1 h2:cu) (tk:Nat) (vs':List ae) (ss':List Int) (e:Nat),(∀ b o,s.heap.get? b=some o->h1.get? b=some o)->(∀ b o,h1.get? b=some o->h2.get? b=some o)->h2.get? h1.objs.size=some {cls:=.type "list",data:=.seq vs'.toArray e}->eF vs' ss'->ss'.Perm ss->ss'.Pairwise (·<=·)->Q (.ref h1.objs.size) {s with heap:=h2,toks:=tk}) :
  aU (aX prog w) A (vJ (.builtin "sorted") [.ref d]) Q E s:=by
 obtain ⟨ep,hat⟩:=hm.dictAt;refine Calls.call_function_entry IA E8 E9 (args_sorted1 _) ?_;unfold gX.«sorted»;refine aq (m:=Lz "sorted" 1 1 _) (aV ?_);have sl:64<=aB:=by decide
 refine aq (PySem.W.kdu_collect (A:=A.in1) (PySem.W.kdl_dict (knd:=knd) (kvs:=kvs) (ep:=ep) lo) hh hat (by omega) fun h' tk acc hkp hacc=>?_);have hl:acc.toList.length=kvs.length:=by rw [fH]; exact hacc.1
 have hS:eF acc.toList ss:=hk acc.toList hl fun j v e=>hacc.2 j v (by rw [<- oJ]; exact e);refine aq (oV ?_ (by rw [hl]; omega));have hoL:(h'.push (dA "list" acc.toList.toArray 0)).get? h'.objs.size=some (dA "list" acc.toList.toArray 0):=cj _ rfl;refine aq (dO (p0 Ay ⟨_,hoL,rfl⟩ ze (list_sort_tree (s:={s with heap:=h'.push (dA "list" acc.toList.toArray 0),toks:=tk}) hoL hS (by rw [hl]; exact h64) fun out ss' b1 b2 b3=>⟨_,rfl,?_⟩) (args_list_sort _)));obtain ⟨e,he⟩:=sortedHeap_at (out:=out) hoL;refine aV ⟨_,rfl,h h' _ tk out.toList ss' e hkp (fun b o q1=>?_) he b1 b2 b3⟩;have lt:=aN q1;rw [sortedHeap_old (aO lt) (by rw [p8]; exact ij lt)];exact aI _ q1
end
section
variable {X:Cx}
theorem Dv {P:aJ} {w:bJ}:∀ (kvs:List (Key×V)) (ss:List Int) (ws:List (Key×ae)),KV kvs ws->kvs.map (·.1)=ss.map Sum.inl->∀ vs:List ae,vs.length=ws.length->(∀ (j:Nat) (v:ae),vs[j]?=some v->∃ k x,ws[j]?=some (k,x)/\(eM P w).is k v=true)->eF vs ss:=by
 intro kvs
 induction kvs with
 | nil =>
  intro ss ws k e vs hl _
  cases k
  cases ss with
  | nil =>
   cases vs with
   | nil=>exact .nil
   | cons _ _=>cases hl
  | cons _ _=>cases e
 | cons kv r ih =>
  intro ss ws k e vs hl hv
  cases k with
  | @cons _ w' _ wr z zr =>
   cases ss with
   | nil=>cases e
   | cons x ssr =>
    rw [bQ,bQ] at e;injection e with e1 e2
    cases vs with
    | nil=>cases hl
    | cons v vr =>
     obtain ⟨k',x',a,b⟩:=hv 0 v rfl;have a:w'=(k',x'):=dH a;have ek:k'=Sum.inl x:=by
      rw [<- e1,z.1,a]
     subst ek;obtain ⟨t,rfl⟩:=DG (show zW x v=true from b);exact .cons x t (ih ssr wr zr e2 vr (HD hl) fun j v' hj=>hv (j + 1) v' hj)
theorem yq (hc:X.calm=true):jH X (.builtin "sorted") (fun xs H Q=>∃ p ss kvs,xs=[V.ref p]/\H p=some (.dK kvs)/\kvs.map (·.1)=ss.map Sum.inl/\ss.length < 64 /\
  ∀ (l:aa) (ss':List Int),H l=none->ss'.Perm ss->ss'.Pairwise (·<=·)->Q (.ref l) (upd H l (.lst (ss'.map V.int)))):=by
 intro pins s σ H xs us Q I r h;obtain ⟨p,ss,kvs,rfl,hp,hk,h64,q⟩:=h;obtain ⟨u,rfl,ru⟩:=vals1 r
 cases ru;have sl:64<=aB:=by decide
 obtain ⟨_,n1,ws,k1,m1⟩:=(show eB X.prog X.w H s.heap p (.dK kvs) from I.hok p _ hp);have lk:=congrArg ja hk;rw [ar,ar] at lk;refine yp (knd:=eM X.prog X.w) (I.ok.hd hc) n1 m1 (by rw [<- k1.length]; omega) (Dv kvs ss ws k1 hk) fun h1 h2 tk vs' ss' e kp1 kp2 he b1 b2 b3=>?_;have I1:Inv X pins σ H {s with heap:=h1,toks:=tk}:=I.kept (t':=tk) kp1;have z:=I1.laid (a:=h1.objs.size) (o:=.lst (ss'.map V.int)) (t':=tk) (h':=h2) kp2 (aC _) ⟨by rw [ar,b2.length_eq]; omega,vs',e,Jz b1,he⟩;exact ⟨.ref h1.objs.size,_,z,rfl,q _ ss' (I1.hok.fresh (aC _)) b2 b3⟩
end
end L2
namespace My
open PySem L2
section
variable {Ms:List MD} {r:RS}
theorem MU {most:Int} (mo:Dp Ms):∀ {i:Nat},(∀ j,j < i->ROk Ms.length (itR Ms r j).1/\gU (itR Ms r j).1 (most - (itR Ms r j).2.length)=none)->(∀ j,j < i->(itR Ms r j).2.length=j)/\(itR Ms r i).2.length<=i
 | 0,_=>⟨fun j hj=>absurd hj (hW _),aC _⟩
 | i + 1,h=>by
  obtain ⟨h2,h3⟩:=MU (i:=i) mo fun j hj=>h j (by omega);have di:=ji (h i (by omega)).2;have ri:=(h i (by omega)).1;obtain ⟨_,s2⟩:=q8 (uo mo ri di.2.1);have li:(itR Ms r i).2.length=i:=by
   cases i with
   | zero=>rfl
   | succ i =>
    -- the turn ahead of it told a record, else it would be over
    have e:(itR Ms r (i + 1)).2=(itR Ms r i).2++(gA Ms (itR Ms r i).1).2:=rfl;have dj:=ji (h i (by omega)).2;obtain ⟨_,s2'⟩:=q8 (uo mo (h i (by omega)).1 dj.2.1)
    rcases s2' with ⟨q,eq⟩ | ⟨_,sp,esp⟩
    ·rw [e,eq,aA,h2 i (by omega)];rfl
    ·have:(itR Ms r (i + 1)).1.sp=some sp:=esp;rw [di.1] at this
     cases this
  refine ⟨fun j hj=>?_,?_⟩
  ·rcases tN j i with z | z
   ·exact h2 j z
   ·have:j=i:=by omega
    rw [this];exact li
  ·have e:(itR Ms r (i + 1)).2=(itR Ms r i).2++(gA Ms (itR Ms r i).1).2:=rfl;rw [e,aA,li]
   rcases s2 with ⟨q,eq⟩ | ⟨eq,_⟩
   ·rw [eq];exact aC _
   ·rw [eq];exact fq _
theorem xi {most:Int} {i:Nat} {e:End} (mo:Dp Ms) (s:pA Ms r most i e) (m0:0<=most):((itR Ms r i).2.length:Int)<=most:=by
 cases i with
 | zero =>
  show ((0:Nat):Int)<=most;omega
 | succ i =>
  obtain ⟨h1,h2⟩:=MU mo s.1;have d:=ji (s.1 i (by omega)).2;have:=h1 i (by omega);omega
theorem Hh {r:RS} {a b:Int} (h:gU r a=none) (l:a<=b):gU r b=none:=by
 obtain ⟨h1,h2,h3⟩:=ji h;unfold gU;rw [h1];dsimp only;rw [if_neg,if_neg (by omega)];intro z;exact h2 (HE.mp z)
end
theorem uu (Ms:List MD) (r:RS) (i:Nat):∀ j:Nat,itR Ms r (i + j)=((itR Ms (itR Ms r i).1 j).1,(itR Ms r i).2++(itR Ms (itR Ms r i).1 j).2)
 | 0=>by
  show itR Ms r i=((itR Ms r i).1,(itR Ms r i).2++[]);rw [cE]
 | j + 1=>by
  show ((gA Ms (itR Ms r (i + j)).1).1,(itR Ms r (i + j)).2++(gA Ms (itR Ms r (i + j)).1).2)=_;rw [uu Ms r i j];show _=((gA Ms (itR Ms (itR Ms r i).1 j).1).1,(itR Ms r i).2++((itR Ms (itR Ms r i).1 j).2++(gA Ms (itR Ms (itR Ms r i).1 j).1).2));rw [jr]
structure Mrk (Ms:List MD) (es:List Ev) (n:Nat) (r:RS):Prop where
 e:r=(itR Ms (kN Ms es) n).1
 l:∀ j,j<=n->(itR Ms (kN Ms es) j).2.length=j
 d:∀ j,j < n->ROk Ms.length (itR Ms (kN Ms es) j).1/\gU (itR Ms (kN Ms es) j).1 1=none
theorem JA {r:RS} {k:Int} (h:gU r k=none):gU r 1=none:=by
 obtain ⟨h1,h2,h3⟩:=ji h;unfold gU;rw [h1];dsimp only;rw [if_neg (fun z=>h2 (HE.mp z)),if_neg (by decide)]
theorem mrk_0 (Ms:List MD) (es:List Ev):Mrk Ms es 0 (kN Ms es):=⟨rfl,fun j hj=>by
 have:j=0:=by omega
 subst this;rfl,fun j hj=>absurd hj (hW _)⟩
section
variable {Ms:List MD} {es:List Ev} {n i:Nat} {r:RS} {k:Int} {e:End}
theorem Mrk.full (mo:Dp Ms) (m:Mrk Ms es n r) (s:pA Ms r k i e) (l:((itR Ms r i).2.length:Int)=k):Mrk Ms es (n + i) (itR Ms r i).1/\(i:Int)=k:=by
 obtain ⟨b1,b2⟩:=MU mo s.1;have ik:(i:Int)=k:=by
  cases i with
  | zero=>exact l
  | succ i =>
   have d:=(ji (s.1 i (by omega)).2).2.2;rw [b1 i (by omega)] at d;omega
 have e0:=m.e;subst e0;have add:=uu Ms (kN Ms es) n;refine ⟨⟨by rw [add i],fun j hj=>?_,fun j hj=>?_⟩,ik⟩
 ·by_cases c:j<=n
  ·exact m.l j c
  ·obtain ⟨d,rfl⟩:∃ d,j=n + d:=⟨j - n,by omega⟩;rw [add d];show ((itR Ms (kN Ms es) n).2++_).length=n + d;rw [aA,m.l n (aC _)]
   by_cases c2:d < i
   ·rw [b1 d c2]
   ·have:d=i:=by omega
    rw [this];omega
 ·by_cases c:j < n
  ·exact m.d j c
  ·obtain ⟨d,rfl⟩:∃ d,j=n + d:=⟨j - n,by omega⟩;rw [add d];have q:=s.1 d (by omega);exact ⟨q.1,JA q.2⟩
theorem Mrk.on (m:Mrk Ms es n r) (s:pA Ms r k i e) (k0:0<=k):pA Ms (kN Ms es) (n + k) (n + i) e/\(itR Ms (kN Ms es) (n + i)).2.drop n=(itR Ms r i).2:=by
 have e0:=m.e;subst e0;have add:=uu Ms (kN Ms es) n;have len:∀ d,((n:Int) + k) - (itR Ms (kN Ms es) (n + d)).2.length=k - (itR Ms (itR Ms (kN Ms es) n).1 d).2.length:=fun d=>by
  rw [add d];show (n:Int) + k - ((itR Ms (kN Ms es) n).2++_).length=_;rw [aA,m.l n (aC _)];omega
 refine ⟨⟨fun j hj=>?_,?_,?_⟩,?_⟩
 ·by_cases c:j < n
  ·have q:=m.d j c;refine ⟨q.1,Hh q.2 ?_⟩;rw [m.l j (by omega)];omega
  ·obtain ⟨d,rfl⟩:∃ d,j=n + d:=⟨j - n,by omega⟩;have q:=s.1 d (by omega);rw [len d,add d];exact q
 ·rw [len i,add i];exact s.2.1
 ·rw [add i];exact s.2.2
 ·rw [add i];show ((itR Ms (kN Ms es) n).2++_).drop n=_;rw [List.drop_append,m.l n (aC _),tQ,wN,List.drop_of_length_le (z8 (m.l n (aC _))),j3]
end
structure Rst (Ms:List MD) (r:RS):Prop where
 ok:ROk Ms.length r
 wk:∀ (i:Nat) (M:MD) (s:Sta),Ms[i]?=some M->r.sts[i]?=some s->o8 M.bs M.qs s.w
def CoK (CC CS m:aa) (F:Hp) (c:aa) (r:RS):Prop:=∃ (dx sl pl:aa) (rv sv:V) (ss:List aa) (ps:List V),F c=some (.ins CC dx (gW (.ref m) (.ref sl) (.ref pl) rv sv))/\yf F rv r.re/\yg F sv r.sp/\F sl=some (.lst (ss.map V.ref))/\aP (StA CS F) ss r.sts/\F pl=some (.lst ps)/\aP (gQ F) ps r.pd
theorem CoK.same {CC CS m:aa} {F G:Hp} (s:bf F G) {c:aa} {r:RS} (h:CoK CC CS m F c r):CoK CC CS m G c r:=by
 obtain ⟨dx,sl,pl,rv,sv,ss,ps,h1,h2,h3,h4,h5,h6,h7⟩:=h;exact ⟨dx,sl,pl,rv,sv,ss,ps,s _ _ h1,h2.same s,h3.same s,s _ _ h4,Paired.mono (fun _ _ z=>jq.same' s z) h5,s _ _ h6,Paired.mono (fun _ _ z=>z.same s) h7⟩
theorem iA.rst {CC CS:aa} {Ms:List MD} {Hb G:Hp} {ex:Ex} {co m sl pl:aa} {r:RS} (c:iA CC CS Ms Hb ex G co m sl pl r):Rst Ms r:=⟨c.ok,c.wk⟩
theorem iA.weak {CC CS:aa} {Ms:List MD} {Hb Hb' G:Hp} {ex:Ex} {co m sl pl:aa} {r:RS} (s:bf Hb' Hb) (c:iA CC CS Ms Hb ex G co m sl pl r):iA CC CS Ms Hb' ex G co m sl pl r:=⟨c.ok,fun b o e=>c.sm b o (s _ _ e),c.i1,c.i2,c.i3,c.n1,c.n2,c.n3,c.hc,c.hs,c.hp,c.wk,c.nt⟩
theorem iA.k {CC CS:aa} {Ms:List MD} {Hb G:Hp} {ex:Ex} {co m sl pl:aa} {r:RS} (c:iA CC CS Ms Hb ex G co m sl pl r):CoK CC CS m G co r:=by
 obtain ⟨dx,rv,sv,h1,h2,h3⟩:=c.hc;obtain ⟨ss,h4,h5⟩:=c.hs;obtain ⟨ps,h6,h7⟩:=c.hp;exact ⟨dx,sl,pl,rv,sv,ss,ps,h1,h2.same eA,h3.same eA,h4,Paired.mono (fun _ _ z=>jq.same' eA z) h5,h6,Paired.mono (fun _ _ z=>z.same eA) h7⟩
theorem vD {α β:Type} {R:α->β->Prop}:∀ {xs:List α} {ys:List β} {i:Nat} {x:α},aP R xs ys->xs[i]?=some x->∃ y,ys[i]?=some y/\R x y
 | _,_,0,_,.cons a _,e=>by
  cases e;exact ⟨_,rfl,a⟩
 | _,_,i + 1,_,.cons _ r,e=>vD (i:=i) r e
theorem FT.hid {CS:aa} {H0 H G:Hp} {st:aa} {bx:List (Str×Int)} {qu:List (Str×List Int)} {dr:Nat} {se:Int} {dxs bd qd:aa} {qa:List (Str×aa)} (s:bf H0 H) (n:FT CS H G st bx qu dr se dxs bd qd qa):jq CS (Hid ⟨[],H0⟩ G) st bx qu dr se:=by
 have v:∀ {a:aa} {o:HO},a∈st :: bd :: qd :: qa.map (·.2)->G a=some o->Hid ⟨[],H0⟩ G a=some o:=fun m e=>by
  rw [eG (iS (none_of s (n.fr _ m)))];exact e
 exact ⟨dxs,bd,qd,qa,v (by simp) n.hst,v (by simp) n.hb,v (by simp) n.hq,n.hl.hid fun a m=>iS (none_of s (n.fr a (by simp only [au]; exact .inr (.inr (.inr m)))))⟩
theorem yf.hid {ex:Ex} {G:Hp} (nt:∀ a∈ex,∃ o,G a=some o/\∀ xs,o≠.tup xs) {v:V}:∀ {q:Option Ev},yf G v q->yf (Hid ex G) v q
 | none,h=>h
 | some _,⟨k,e,h⟩=>⟨k,e,fX nt h⟩
theorem yg.hid {ex:Ex} {G:Hp} (nt:∀ a∈ex,∃ o,G a=some o/\∀ xs,o≠.tup xs) {v:V}:∀ {q:Option Stp},yg G v q->yg (Hid ex G) v q
 | none,h=>h
 | some (.fin _),⟨t,k,e,h1,h2⟩=>⟨t,k,e,fX nt h1,fX nt h2⟩
 | some (.flt _ _),⟨t,k,e,h1,h2⟩=>⟨t,k,e,fX nt h1,fX nt h2⟩
section
variable {P:aJ} {w:bJ} {K:af} {mg:Str->Option ae} {base:cu} {f fCp fCI CC CM CS:aa} {fd fdCp fdCI:bR}
seal PS PSs PE PA PT PW PI PG PGs PC
abbrev nCc:List Str:=["self","other"]
abbrev pCc:List Str:=["self"]
theorem scCc:bK nCc pCc (aL gC):={}
theorem ndCc:((["state"]:List Str)++nCc).Nodup:=by decide +kernel
inductive Hi (CC CS:aa) (vs:List V) (H:Hp) (Q:VK) (_e:XK):Prop where
 | mk (Ms:List MD) (c m:aa) (r:RS) (_:vs=[.ref c]) (_:CoK CC CS m H c r) (_:Rst Ms r) (_:Ms.length < 1000) (_:r.pd.length<=1000000) (_:∀ (G:Hp) (c' sl pl:aa),iA CC CS Ms H ⟨[c',sl,pl],H⟩ G c' m sl pl r->Q (.ref c') G):Hi CC CS vs H Q _e
def Hj (CC CS:aa):Sp:=fun vs H Q _e=>Hi CC CS vs H Q _e
theorem Hk (F:Fun K "copy" "Course.copy" gC f fd) (MCp:Mt K CS "copy" "State.copy" iy ["self"] fCp fdCp) (GCp:bA P w K mg base CX0 3 fCp fdCp ["self"] (AK CS)) (MC:Mk K CC fCI) (GCI:bA P w K mg base CX0 1 fCI fdCI ["self","model","states","pending"] (Mu CC)) (bCI:Binds K fdCI ["self","model","states","pending"] []) (T:CoT K mg CC) (TM:MdT K mg CM CS) (B:Bl mg) :
  bA P w K mg base CX0 4 f fd pCc (Hj CC CS):=by
 refine F.ok scCc (fun vs H Q E h=>?_) (fun cdv A outer s H vs Q E hr h=>?_)
 ·obtain ⟨Ms,c,m,r,rfl,_⟩:=h;rfl
 obtain ⟨Ms,c,m,r,rfl,hc,hR,lM,lp,k⟩:=h;have r2:c5 2 _:=hr.mono (by decide);have r3:c5 3 _:=hr;refine ⟨_,aj (bC (i:=1) scCc.nd rfl (Or.inl rfl) (jA MC GCI r2 (by rfl) T.m bCI .nil bj (ao (eC K (by rfl) (pv 0) (by rfl)) (ao (mU ["state"] (iF.open (NN:=nCc) (N:=nCc) (sc:=aL gC) rfl rfl (by decide +kernel) rfl (by decide +kernel) (by decide +kernel) rfl (by decide +kernel)) rfl (i0 (eC K (by rfl) (pv 0) (by rfl))) (fun _ _ _ _=>dQ (i:=0) ndCc rfl (Or.inl rfl)) (fun _ _ _ _=>j0) (fun _ _ _ _=>iK (pv 0) TM.clS MCp.m GCp r3 MCp.b .nil bj)) (iN (gL (zv K (by rfl)) (by rfl) B.list boot_list (ao (eC K (by rfl) (pv 0) (by rfl)) ai)) ai)))))
  (aj (d9 (pv 1) (eC K (by rfl) (pv 0) (by rfl)) rfl)
  (aj (d9 (pv 1) (eC K (by rfl) (pv 0) (by rfl)) rfl)
  (ay (bM (pv 1))))),?_⟩
 have big:=dY;obtain ⟨dx,sl,pl,rv,sv,ss,ps,h1,h2,h3,h4,h5,h6,h7⟩:=hc;refine cm (cW (qz ?_));refine ⟨_,rfl,c,CC,dx,_,_,rfl,h1,T.cl,T.nM,co_m _ _ _ _ _,?_⟩;have lss:=aZ h5;have lst:=hR.ok.len;refine vB (K:=K) (a:=sl) (xs:=ss.map V.ref) (fun R h=>⟨_,rfl,c,CC,dx,_,_,rfl,h1,T.cl,T.nS,Gi _ _ _ _ _,h⟩) (SqL.of h4) (fun i ys G=>∃ ss':List aa,ys=ss'.map V.ref/\bf H G/\aP (StA CS (Hid ⟨[],H⟩ G)) ss' (r.sts.take i)) ⟨[],rfl,bf.refl _,by rw [jt]; exact .nil⟩ ?_ ?_ ?_
 ·rintro i ys G hi ⟨ss',rfl,s1,p1⟩;have:=aZ p1;rw [df] at this;rw [ar];exact ⟨SqL.of (s1 _ _ h4),by omega⟩
 ·rintro i x ys G hi ⟨ss',rfl,s1,p1⟩;rw [cI] at hi;obtain ⟨st,hst,rfl⟩:=jk.mp hi;obtain ⟨sta,hs,hS⟩:=vD h5 hst;have il:=(aE.mp hs).1;have hM:Ms[i]?=some Ms[i]:=aM (by omega);have wk:=hR.wk i _ sta hM hs;have hS':=jq.same' s1 hS;obtain ⟨dxs,bd,qd,qa,g1,_⟩:=id hS';have kq:sta.qu.map (·.1)=Ms[i].qs:=wk.kq;have lq:sta.qu.length < 100:=by
   have:=congrArg ja kq;rw [ar] at this;have:=wk.fw;rw [aA] at this;omega
  refine ⟨rfl,?_⟩;unfold vU;refine iL ?_;refine ⟨_,rfl,st,dxs,_,rfl,g1,rfl,st,sta.bx,sta.qu,sta.dr,sta.se,rfl,hS',by rw [kq]; exact wk.nq,lq,fun G' st' dxs' bd' qd' qa' N=>⟨ss'++[st'],by rw [cg]; rfl,s1.trans N.sm,?_⟩⟩;rw [e9,hs];exact eD (Paired.mono (fun _ _ z=>jq.same' (gB N.sm) z) p1) (N.hid s1)
 rintro ys G ⟨ss',rfl,s1,p1⟩ sl' hsl';rw [ar,lss,dZ] at p1;have u1:=aF hsl' (.lst (ss'.map V.ref));refine ⟨_,rfl,c,CC,dx,_,_,rfl,u1 _ _ (s1 _ _ h1),T.cl,T.nP,Jc _ _ _ _ _,pl,ps,rfl,.inl (SqL.of (u1 _ _ (s1 _ _ h6))),fun pl' hpl'=>?_⟩;have u2:=aF hpl' (.lst ps);have s2:=(s1.trans u1).trans u2;have q1:=u2 _ _ (jj hsl' (.lst (ss'.map V.ref)));have q2:=jj hpl' (.lst ps);have nH1:H sl'=none:=none_of s1 hsl';have nH2:H pl'=none:=none_of (s1.trans u1) hpl';have n12:sl'≠pl':=av (jj hsl' _) hpl';have uG:=u1.trans u2;revert s2 q1 q2 uG;generalize upd (upd G sl' (.lst (ss'.map V.ref))) pl' (.lst ps)=G2;intro s2 q1 q2 uG;refine fun c' dxc hc' hdx nc=>⟨c',dxc,_,_,_,rfl,ah,fun G3 hG3 but=>⟨rfl,bN ?_⟩⟩;dsimp only;have b3:∀ b o,G2 b=some o->b≠c'/\G3 b=some o:=fun b o e=>⟨av e hc',but _ _ (aR (aR e (av e hdx)) (av e hc')) (av e hc')⟩;refine cm ⟨_,rfl,c,CC,dx,_,_,rfl,(b3 _ _ (s2 _ _ h1)).2,T.cl,T.nR,co_r _ _ _ _ _,_,rfl,c',CC,dxc,_,rfl,hG3,T.cl,T.nR,vn _ _ _ _ _,?_⟩;rw [BJ];have b4:∀ b o,G2 b=some o->b≠c'/\upd G3 c' (.ins CC dxc (gW (.ref m) (.ref sl') (.ref pl') rv .non)) b=some o:=fun b o e=>⟨(b3 b o e).1,aR (b3 b o e).2 (b3 b o e).1⟩;refine cm ⟨_,rfl,c,CC,dx,_,_,rfl,(b4 _ _ (s2 _ _ h1)).2,T.cl,T.nE,Jd _ _ _ _ _,_,rfl,c',CC,dxc,_,rfl,ah,T.cl,T.nE,vn _ _ _ _ _,?_⟩;rw [yh];have b5:∀ b o,G2 b=some o->b≠c'/\upd (upd G3 c' (.ins CC dxc (gW (.ref m) (.ref sl') (.ref pl') rv .non))) c' (.ins CC dxc (gW (.ref m) (.ref sl') (.ref pl') rv sv)) b=some o:=fun b o e=>⟨(b4 b o e).1,aR (b4 b o e).2 (b4 b o e).1⟩;have q3:upd (upd G3 c' (.ins CC dxc (gW (.ref m) (.ref sl') (.ref pl') rv .non))) c' (.ins CC dxc (gW (.ref m) (.ref sl') (.ref pl') rv sv)) c'=some (.ins CC dxc (gW (.ref m) (.ref sl') (.ref pl') rv sv)):=ah;revert b5 q3;generalize upd (upd G3 c' (.ins CC dxc (gW (.ref m) (.ref sl') (.ref pl') rv .non))) c' (.ins CC dxc (gW (.ref m) (.ref sl') (.ref pl') rv sv))=G5;intro b5 q3;clear b4 b3 but hG3 hdx;have s5:bf G2 G5:=fun b o e=>(b5 b o e).2;have sH:bf H G5:=s2.trans s5;have ncs:c'≠sl':=fun z=>(b5 _ _ q1).1 z.symm;have ncp:c'≠pl':=fun z=>(b5 _ _ q2).1 z.symm;have nHc:H c'=none:=none_of s2 hc';have ntt:∀ a∈(⟨[c',sl',pl'],H⟩:Ex),∃ o,G5 a=some o/\∀ xs,o≠.tup xs:=fun a ha=>by
  rcases ha with ha | ⟨o,e,n⟩
  case inr=>exact ⟨o,sH _ _ e,n⟩
  have ha:a∈[c',sl',pl']:=ha;simp only [au,aS,or_false] at ha
  rcases ha with rfl | rfl | rfl
  ·exact ⟨_,q3,fun xs z=>by cases z⟩
  ·exact ⟨_,s5 _ _ q1,fun xs z=>by cases z⟩
  ·exact ⟨_,s5 _ _ q2,fun xs z=>by cases z⟩
 have sS:bf (Hid ⟨[],H⟩ G) (Hid ⟨[c',sl',pl'],H⟩ G5):=vz (uG.trans s5) fun a ha=>by
  simp only [au,aS,or_false] at ha
  rcases ha with rfl | rfl | rfl
  ·exact none_of uG hc'
  ·exact hsl'
  ·exact none_of u1 hpl'
 dsimp only;refine fb ⟨_,rfl,k G5 c' sl' pl' ⟨hR.ok,fun b o e=>⟨av e nHc,av e nH1,av e nH2,sH _ _ e⟩,.inl (by simp),.inl (by simp),.inl (by simp),ncs,ncp,n12,⟨dxc,rv,sv,q3,yf.hid ntt (h2.same sH),yg.hid ntt (h3.same sH)⟩,⟨ss',s5 _ _ q1,Paired.mono (fun _ _ z=>jq.same' sS z) p1⟩,⟨ps,s5 _ _ q2,Paired.mono (fun _ _ z=>gQ.hid ntt (z.same sH)) h7⟩,hR.wk,ntt⟩⟩
end
def Wp (p:aa) (H:Hp):Hp:=fun a=>if a=p then none else H a
theorem gI {p a:aa} {H:Hp} {o:HO} (h:H a=some o) (n:a≠p):Wp p H a=some o:=by
 unfold Wp;rw [if_neg n];exact h
theorem qi {p a:aa} {H:Hp} {o:HO} (h:Wp p H a=some o):a≠p/\H a=some o:=by
 unfold Wp at h
 by_cases c:a=p
 ·rw [if_pos c] at h
  cases h
 ·rw [if_neg c] at h;exact ⟨c,h⟩
theorem But.wp {p:aa} {H H':Hp} (b:But p H H'):bf (Wp p H) (Wp p H'):=fun a o e=>by
 obtain ⟨n,h⟩:=qi e;exact gI (b _ _ h n) n
theorem pV (p:aa) (H:Hp):bf (Wp p H) H:=fun a o e=>(qi e).2
theorem uv {p:aa} {G F:Hp} (s:bf G F):bf (Wp p G) (Wp p F):=fun a o e=>gI (s _ _ (qi e).2) (qi e).1
structure Rn (CM:aa) (Ms:List MD) (es:List Ev) (H:Hp) (m sgl:aa):Prop where
 mo:tR CM Ms H m
 lm:Ms.length < 1000
 sg:∃ svs,H sgl=some (.lst svs)/\aP (v9 H) svs es
 le:es.length < 64
 ev:∀ e∈es,zw Ms.length e
theorem Rn.same {CM:aa} {Ms:List MD} {es:List Ev} {H G:Hp} {m sgl:aa} (s:bf H G) (h:Rn CM Ms es H m sgl):Rn CM Ms es G m sgl:=by
 obtain ⟨svs,h1,h2⟩:=h.sg;exact ⟨h.mo.same s,h.lm,⟨svs,s _ _ h1,Paired.mono (fun _ _ z=>z.same s) h2⟩,h.le,h.ev⟩
def j1 (m s e k:V):List (Str×V):=[("model",m),("signs",s),("every",e),("kept",k)]
structure KeT (K:af) (mg:Str->Option ae) (CK:aa):Prop where
 cl:Cls K CK
 nM:d8 K CK "model"
 nS:d8 K CK "signs"
 nE:d8 K CK "every"
 nK:d8 K CK "kept"
 m:mg "Keeper"=some (.ref CK)
theorem ke_m (m s e k:V):(j1 m s e k).lookup ("model":Str)=some m:=rfl
theorem ke_s (m s e k:V):(j1 m s e k).lookup ("signs":Str)=some s:=rfl
theorem ke_e (m s e k:V):(j1 m s e k).lookup ("every":Str)=some e:=rfl
theorem Hl (m s e k:V):(j1 m s e k).lookup ("kept":Str)=some k:=rfl
theorem Hm (m s e k:V):(j1 m s e k).length < 1000:=by show 4 < 1000; decide
theorem B5 (m s e k k':V):cD "kept" k' (j1 m s e k)=j1 m s e k':=rfl
theorem xj (m s e k:V) {x:Str} (hx:(["model","signs","every","kept"]:List Str).contains x=false):(j1 m s e k).lookup x=none:=by
 have z:∀ k∈(["model","signs","every","kept"]:List Str),(x == k)=false:=fun k hk=>beq_eq_false_iff_ne.mpr fun e=>by
  rw [e,jQ.mpr hk] at hx
  cases hx
 unfold j1;rw [dB (z _ (by simp)),dB (z _ (by simp)),dB (z _ (by simp)),dB (z _ (by simp))];rfl
structure Kpt (CC CS m:aa) (Ms:List MD) (es:List Ev) (F:Hp) (kvs:List (Key×V)):Prop where
 at_:∀ q∈kvs,∃ (n:Nat) (c:aa) (r:RS),q=(Sum.inl (n:Int),V.ref c)/\CoK CC CS m F c r/\Rst Ms r/\Mrk Ms es n r/\r.pd.length<=1000000
 nd:(kvs.map (·.1)).Nodup
 few:kvs.length<=50
theorem Kpt.same {CC CS m:aa} {Ms:List MD} {es:List Ev} {F G:Hp} {kvs:List (Key×V)} (s:bf F G) (h:Kpt CC CS m Ms es F kvs):Kpt CC CS m Ms es G kvs:=⟨fun q hq=>by
 obtain ⟨n,c,r,e,h1,h2⟩:=h.at_ q hq;exact ⟨n,c,r,e,h1.same s,h2⟩,h.nd,h.few⟩
def p6 (kvs:List (Key×V)):List Int:=kvs.map fun q=>match q.1 with
 | .inl n=>n
 | .inr _=>0
theorem Kpt.keys {CC CS m:aa} {Ms:List MD} {es:List Ev} {F:Hp} {kvs:List (Key×V)} (h:Kpt CC CS m Ms es F kvs):kvs.map (·.1)=(p6 kvs).map Sum.inl:=by
 unfold p6;rw [dS];refine gO fun q hq=>?_;obtain ⟨n,c,r,e,_⟩:=h.at_ q hq;rw [e];rfl
theorem JB {kvs:List (Key×V)} {k:Key} {v:V} (h:jn kvs k=some v):(k,v)∈kvs:=by
 unfold jn at h;obtain ⟨p,hp,rfl⟩:=jk.mp h;have h1:=List.mem_of_find?_eq_some hp;have h2:=List.find?_some hp;have:p.1=k:=by simpa using h2
 rw [<- this];exact h1
structure AZ (CK CC CM CS:aa) (Ms:List MD) (es:List Ev) (F:Hp) (k m sl kd:aa) (ev:Int) (kvs:List (Key×V)):Prop where
 ob:∃ dx,F k=some (.ins CK dx (j1 (.ref m) (.ref sl) (.int ev) (.ref kd)))
 rn:Rn CM Ms es F m sl
 dk:F kd=some (.dK kvs)
 kk:Kpt CC CS m Ms es F kvs
theorem AZ.same {CK CC CM CS:aa} {Ms:List MD} {es:List Ev} {F G:Hp} {k m sl kd:aa} {ev:Int} {kvs:List (Key×V)} (s:bf F G) (h:AZ CK CC CM CS Ms es F k m sl kd ev kvs):AZ CK CC CM CS Ms es G k m sl kd ev kvs:=by
 obtain ⟨dx,h1⟩:=h.ob;exact ⟨⟨dx,s _ _ h1⟩,h.rn.same s,s _ _ h.dk,h.kk.same s⟩
section
variable {P:aJ} {w:bJ} {K:af} {mg:Str->Option ae} {base:cu} {f fCp fCf fR CK CC CM CS CN:aa} {fd fdCp fdCf fdR:bR}
seal PS PSs PE PA PT PW PI PG PGs PC
abbrev nKm:List Str:=["self"]
abbrev pKm:List Str:=["self"]
theorem scKm:bK nKm pKm (aL ie):={}
inductive KI (CK:aa) (vs:List V) (H:Hp) (Q:VK) (_e:XK):Prop where
 | mk (k kd dx:aa) (m s e:V) (kvs:List (Key×V)) (ns:List Int) (_:vs=[.ref k]) (_:H k=some (.ins CK dx (j1 m s e (.ref kd)))) (_:H kd=some (.dK kvs)) (_:kvs.map (·.1)=ns.map Sum.inl) (_:ns.length < 64) (_:∀ (l:aa) (ns':List Int),H l=none->ns'.Perm ns->ns'.Pairwise (·<=·)->Q (.ref l) (upd H l (.lst (ns'.map V.int)))):KI CK vs H Q _e
def spKm (CK:aa):Sp:=fun vs H Q _e=>KI CK vs H Q _e
theorem ok_km (F:Fun K "marks" "Keeper.marks" ie f fd) (T:KeT K mg CK) (MS:mg "sorted"=none):bA P w K mg base CX0 1 f fd pKm (spKm CK):=by
 refine F.ok scKm (fun vs H Q E h=>?_) (fun cdv A outer s H vs Q E hr h=>?_)
 ·obtain ⟨k,kd,dx,m,s',e,kvs,ns,rfl,_⟩:=h;rfl
 obtain ⟨k,kd,dx,m,s',e,kvs,ns,rfl,h1,h2,h3,h4,q⟩:=h;refine ⟨_,ay (bM (cL (yq rfl) (by rfl) MS PyProof.Rows.boot_sorted (ao (eC K (by rfl) (pv 0) (by rfl)) ai))),?_⟩;exact fb ⟨_,rfl,k,CK,dx,_,_,rfl,h1,T.cl,T.nK,Hl _ _ _ _,kd,ns,kvs,rfl,h2,h3,h4,q⟩
abbrev nKc:List Str:=["self","number"]
abbrev pKc:List Str:=["self","number"]
theorem scKc:bK nKc pKc (aL fh):={}
inductive KJ (CK CC CM CS CN:aa) (vs:List V) (H:Hp) (Q:VK) (E:XK):Prop where
 | mk (Ms:List MD) (es:List Ev) (k m sl kd:aa) (ev n:Int) (kvs:List (Key×V)) (_:vs=[.ref k,.int n]) (_:AZ CK CC CM CS Ms es H k m sl kd ev kvs) (_:(n∉p6 kvs->E (.ref CN) none H)) (_:∀ (G:Hp) (c' sl' pl':aa) (nn:Nat) (r:RS),n∈p6 kvs->n=nn->Mrk Ms es nn r->r.pd.length<=1000000->iA CC CS Ms H ⟨[c',sl',pl'],H⟩ G c' m sl' pl' r->Q (.ref c') G):KJ CK CC CM CS CN vs H Q E
def spKc (CK CC CM CS CN:aa):Sp:=fun vs H Q E=>KJ CK CC CM CS CN vs H Q E
theorem ok_kc (F:Fun K "course_from" "Keeper.course_from" fh f fd) (MCp:Mt K CC "copy" "Course.copy" gC pCc fCp fdCp) (GCp:bA P w K mg base CX0 4 fCp fdCp pCc (Hj CC CS)) (T:KeT K mg CK) (TC:CoT K mg CC) (mN:mg "NoMark"=some (.ref CN)) (xN:cY K CN oQ "ValueError.__new__"=true):bA P w K mg base (CXo P w) 5 f fd pKc (spKc CK CC CM CS CN):=by
 refine F.okX scKc (fun vs H Q E h=>?_) (fun cdv A outer s H vs Q E hr h=>?_)
 ·obtain ⟨Ms,es,k,m,sl,kd,ev,n,kvs,rfl,_⟩:=h;rfl
 obtain ⟨Ms,es,k,m,sl,kd,ev,n,kvs,rfl,hk,no,q⟩:=h;have hu1:=kQ hr;have r4:c5 4 _:=hr;refine ⟨_,aj (cS (qj (Cy hu1 (pv 1) (eC K (by rfl) (pv 0) (by rfl)))) (ay (jK dJ rfl rfl mN xN ((dC bX ai)))) bY)
  (ay (bM (iK (pO hu1 (eC K (by rfl) (pv 0) (by rfl)) (pv 1) (fun _ _=>rfl)) TC.cl MCp.m GCp r4 MCp.b .nil bj))),?_⟩
 have big:=dY;obtain ⟨dx,ob⟩:=hk.ob;have dg:nZ H kd (.int n) (jn kvs (Sum.inl n)):=nZ.k (k:=Sum.inl n) hk.dk;refine cm (hV ⟨_,rfl,_,rfl,k,CK,dx,_,_,rfl,ob,T.cl,T.nK,Hl _ _ _ _,kd,_,rfl,dg,_,rfl,?_⟩);have key:=hk.kk.keys
 cases e:jn kvs (Sum.inl n) with
 | none =>
  refine iL ⟨De,no fun z=>?_⟩;refine EO e ?_;rw [key];exact iR z
 | some v =>
  refine fZ ?_;dsimp only [oB];have mem:=JB e;have nm:n∈p6 kvs:=by
   have:=iR (f:=(·.1)) mem;rw [key] at this;obtain ⟨x,hx,e'⟩:=cC.mp this
   cases e';exact hx
  obtain ⟨nn,c,r,eq,h1,h2,h3,h4⟩:=hk.kk.at_ _ mem
  cases eq;rw [e] at dg;obtain ⟨dxc,slc,plc,rv,sv,ss,ps,g1,_⟩:=id h1;refine fb ⟨_,rfl,k,CK,dx,_,_,rfl,ob,T.cl,T.nK,Hl _ _ _ _,_,rfl,kd,_,rfl,dg,c,dxc,_,rfl,g1,vp _ _ _ _ _ (by decide +kernel),Ms,c,m,r,rfl,h1,h2,hk.rn.lm,h4,fun G c' sl' pl' C=>q G c' sl' pl' nn r nm rfl h3 h4 C⟩
abbrev nKg:List Str:=["self","number","most"]
abbrev pKg:List Str:=["self","number","most"]
theorem scKg:bK nKg pKg (aL ig):={}
inductive KL (CK CC CM CS CN:aa) (vs:List V) (H:Hp) (Q:VK) (E:XK):Prop where
 | mk (Ms:List MD) (es:List Ev) (k m sl kd:aa) (ev n most:Int) (kvs:List (Key×V)) (_:vs=[.ref k,.int n,.int most]) (_:AZ CK CC CM CS Ms es H k m sl kd ev kvs) (_:most<=1000) (_:(n∉p6 kvs->E (.ref CN) none H)) (_:∀ (G:Hp) (t rl:aa) (en:V) (rvs:List V) (nn i:Nat) (r:RS) (e:End),n∈p6 kvs->n=nn->Mrk Ms es nn r->pA Ms r most i e->bf H G->G t=some (.tup [.ref rl,en])->G rl=some (.lst rvs)->H rl=none->aP (RcIn G) rvs (itR Ms r i).2->pz G en e->Q (.ref t) G):KL CK CC CM CS CN vs H Q E
def spKg (CK CC CM CS CN:aa):Sp:=fun vs H Q E=>KL CK CC CM CS CN vs H Q E
theorem ok_kg (F:Fun K "go_on" "Keeper.go_on" ig f fd) (MCf:Mt K CK "course_from" "Keeper.course_from" fh pKc fCf fdCf) (GCf:bA P w K mg base (CXo P w) 5 fCf fdCf pKc (spKc CK CC CM CS CN)) (DR:Df K mg "run_on" lY ["course","most"] fR fdR) (GR:bA P w K mg base CX0 39 fR fdR ["course","most"] (BP CC CM CS)) (T:KeT K mg CK):bA P w K mg base (CXo P w) 40 f fd pKg (spKg CK CC CM CS CN):=by
 refine F.okX scKg (fun vs H Q E h=>?_) (fun cdv A outer s H vs Q E hr h=>?_)
 ·obtain ⟨Ms,es,k,m,sl,kd,ev,n,most,kvs,rfl,_⟩:=h;rfl
 obtain ⟨Ms,es,k,m,sl,kd,ev,n,most,kvs,rfl,hk,hm,no,q⟩:=h;have r5:c5 5 _:=hr.mono (by decide);have r39:c5 39 _:=hr;refine ⟨_,ay (bM (aK GR r39 (by rfl) DR.m DR.F.kp DR.b .nil bj (iN (fJ (pv 0) T.cl MCf.m GCf r5 MCf.b .nil (dJ.passes fun _ _ _ z=>z) (bE (pv 1) ai)) (bE (pv 2) ai)))),?_⟩;obtain ⟨dx,ob⟩:=hk.ob;refine fb ⟨_,rfl,k,dx,_,rfl,ob,xj _ _ _ _ (by decide +kernel),_,rfl,Ms,es,k,m,sl,kd,ev,n,kvs,rfl,hk,no,fun G c' sl' pl' nn r nm en hM lp C=>?_⟩;refine ⟨_,rfl,Ms,H,_,c',m,sl',pl',r,most,rfl,hk.rn.mo,C,hm,lp,fun G2 t i e R=>?_⟩;obtain ⟨rl,env,rvs,g1,g2,_,g3,g4⟩:=R.rs;have sH:bf H G2:=fun a o e=>(R.cc.sm a o e).2.2.2;have nrl:H rl=none:=by
  cases z:H rl with
  | none=>rfl
  | some o =>
   refine absurd (.inr ⟨o,z,fun xs y=>?_⟩:rl∈(⟨[c',sl',pl'],H⟩:Ex)) (gR g2);have:=eA _ _ g2;rw [sH _ _ z,y] at this
   cases this
 exact q G2 t rl env rvs nn i r e nm en hM R.st sH (eA _ _ g1) (eA _ _ g2) nrl (Paired.mono (fun _ _ z=>z.same eA) g3) (g4.same eA)
end
theorem zH {kvs:List (Key×V)} {k:Key} {v:V} (h:k∉kvs.map (·.1)):iE kvs k v=kvs++[(k,v)]:=yP v (by
 cases z:jn kvs k with
 | none=>rfl
 | some x=>exact absurd (Be z) h)
def MoT (CM:aa) (Ms:List MD) (H:Hp) (m:aa):Prop:=∃ (dx ml:aa) (fs:List (Str×V)),H m=some (.ins CM dx fs)/\fs.lookup ("machines":Str)=some (.ref ml)/\ye (Ms.length:Int) H ml Ms/\Tree H 29 (.ref ml)
theorem MoT.at {CM:aa} {Ms:List MD} {H:Hp} {m:aa} (h:MoT CM Ms H m):tR CM Ms H m:=by
 obtain ⟨dx,ml,fs,h1,h2,h3,_⟩:=h;exact ⟨dx,ml,fs,h1,h2,h3⟩
theorem Tree.mono {H G:Hp} (s:bf H G):∀ {n:Nat} {v:V},Tree H n v->Tree G n v
 | 0,_,h=>h
 | n + 1,v,h=>by
  rcases h with h | ⟨p,xs,e,h1,h2,h3⟩
  ·exact .inl h
  ·exact .inr ⟨p,xs,e,h1.imp (s _ _) (s _ _),h2,fun x hx=>Tree.mono s (h3 x hx)⟩
theorem MoT.same {CM:aa} {Ms:List MD} {H G:Hp} {m:aa} (s:bf H G) (h:MoT CM Ms H m):MoT CM Ms G m:=by
 obtain ⟨dx,ml,fs,h1,h2,h3,h4⟩:=h;exact ⟨dx,ml,fs,s _ _ h1,h2,h3.same s,h4.mono s⟩
theorem Alike.tree {H H':Hp}:∀ {n:Nat} {v v':V},Tree H n v->Alike H H' n v v'->Tree H' n v'
 | 0,v,v',h,a=>by
  rw [show v'=v from a];exact h
 | n + 1,v,v',h,a=>by
  rcases a with ⟨h1,rfl⟩ | ⟨p,p',xs,ys,rfl,rfl,h1,h2,r⟩ | ⟨p,p',xs,ys,rfl,rfl,h1,h2,r⟩
  ·exact .inl h1
  all_goals
   rcases h with h | ⟨q,zs,e,e1,e2,e3⟩
   ·cases h
   ·cases e;have ez:zs=xs:=by
     rcases e1 with e1 | e1
     all_goals
      rw [h1] at e1
      cases e1
      try rfl
    subst ez;refine .inr ⟨p',ys,rfl,?_,by rw [<- aZ r]; exact e2,fun y hy=>?_⟩
    ·first
      | exact .inl h2
      | exact .inr h2
    ·obtain ⟨j,hj⟩:=dM hy;obtain ⟨x,hx,z⟩:=jw r hj;exact Alike.tree (e3 x (bV hx)) z
theorem Hn {m:Int} {H H2:Hp} {ml:aa} {Ms:List MD} {v':V} (h:ye m H ml Ms) (t:Tree H 29 (.ref ml)) (al:Alike H H2 29 (.ref ml) v'):∃ ml',v'=.ref ml'/\ye m H2 ml' Ms/\Tree H2 29 (.ref ml'):=by
 have t':=Alike.tree t al;obtain ⟨xs,h0,p⟩:=h;obtain ⟨ml',ys,rfl,h1,p1⟩:=lZ h0 al;refine ⟨ml',rfl,⟨ys,h1,pQ (R:=MoI m H) (S:=Alike H H2 28) (T:=Tree H 28) (fun v M v' z b c=>?_) p p1 fun x hx=>?_⟩,t'⟩
 ·exact ⟨z.ma.alike c b,z.fs.alike b,z.kb,z.nb,z.nq,z.lb,z.lq,z.ld,z.lh,z.wb,z.hk⟩
 ·rcases t with t | ⟨q,zs,e,e1,e2,e3⟩
  ·cases t
  ·cases e
   rcases e1 with e1 | e1
   ·rw [h0] at e1
    cases e1;exact e3 x hx
   ·rw [h0] at e1
    cases e1
theorem MX {CM:aa} {G H2 G':Hp} {m dxm k:aa} {ml':V} (nem:dxm≠m) (hk:G k≠none) (b:But k (upd H2 m (.ins CM dxm (cD "machines" ml' []))) G'):bf (Nw (upd (upd G dxm (.own m)) m (.ins CM dxm [])) H2) (Hid ⟨[],G⟩ G'):=fun a o e=>by
 have n:(upd (upd G dxm (.own m)) m (.ins CM dxm [])) a=none:=by
  unfold Nw at e
  by_cases c:(upd (upd G dxm (.own m)) m (.ins CM dxm [])) a=none
  ·exact c
  ·rw [if_neg c] at e
   cases e
 have nam:a≠m:=fun z=>by
  rw [z,ah] at n
  cases n
 have nad:a≠dxm:=fun z=>by
  rw [z,aH nem,ah] at n
  cases n
 have ga:G a=none:=by
  rw [aH nam,aH nad] at n;exact n
 rw [eG (iS ga)];exact b _ _ (by rw [aH nam]; exact nw_le _ _ e) fun z=>hk (z ▸ ga)
theorem mo_h {CM:aa} {Ms:List MD} {G H2 G':Hp} {m dxm ml' k:aa} (nm:G m=none) (nem:dxm≠m) (hk:G k≠none) (mo:ye (Ms.length:Int) (Nw (upd (upd G dxm (.own m)) m (.ins CM dxm [])) H2) ml' Ms) (t:Tree (Nw (upd (upd G dxm (.own m)) m (.ins CM dxm [])) H2) 29 (.ref ml')) (b:But k (upd H2 m (.ins CM dxm (cD "machines" (.ref ml') []))) G'):MoT CM Ms (Hid ⟨[],G⟩ G') m:=by
 have s:=MX nem hk b;exact ⟨dxm,ml',_,by rw [eG (iS nm)]; exact b _ _ ah (fun z=>hk (z ▸ nm)),rfl,mo.same s,t.mono s⟩
section
variable {P:aJ} {w:bJ} {K:af} {mg:Str->Option ae} {base:cu} {f fMI fCa CK CC CM CS:aa} {fd fdMI fdCa:bR}
seal PS PSs PE PA PT PW PI PG PGs PC
abbrev nKt:List Str:=["self","number","left","mark","course"]
abbrev pKt:List Str:=["self","number"]
theorem JC:bK nKt pKt (aL jf):={}
inductive KM (CK CC CS:aa) (vs:List V) (H:Hp) (Q:VK) (_e:XK):Prop where
 | mk (F:Hp) (Ms:List MD) (es:List Ev) (mo k kd dx:aa) (m s e:V) (num:Int) (kvs:List (Key×V)) (_:vs=[.ref k,.int num]) (_:H k=some (.ins CK dx (j1 m s e (.ref kd)))) (_:Wp k H kd=some (.dK kvs)) (_:Kpt CC CS mo Ms es F kvs) (_:∀ (G:Hp) (kd':aa) (kvs':List (Key×V)),But k H G->G k=some (.ins CK dx (j1 m s e (.ref kd')))->G kd'=some (.dK kvs')->H kd'=none->Kpt CC CS mo Ms es F kvs'->Q .non G):KM CK CC CS vs H Q _e
def spKt (CK CC CS:aa):Sp:=fun vs H Q _e=>KM CK CC CS vs H Q _e
theorem ok_kt (F:Fun K "cut" "Keeper.cut" jf f fd) (T:KeT K mg CK):bA P w K mg base CX0 1 f fd pKt (spKt CK CC CS):=by
 refine F.ok JC (fun vs H Q E h=>?_) (fun cdv A outer s H vs Q E hr h=>?_)
 ·obtain ⟨F,Ms,es,mo,k,kd,dx,m,s',e,num,kvs,rfl,_⟩:=h;rfl
 obtain ⟨F,Ms,es,mo,k,kd,dx,m,s',e,num,kvs,rfl,h1,h2,h3,q⟩:=h;have hu1:=kQ hr;refine ⟨_,aj (bC (i:=2) JC.nd rfl (Or.inl rfl) oO)
  (aj (Bo (i5 cR rfl (zc (eC K (by rfl) (pv 0) (by rfl))) (uC rfl (iJ (dQ (i:=3) JC.nd rfl (Or.inl rfl)) (iJ (dQ (i:=4) JC.nd rfl (Or.inl rfl)) qI))) (ay (cS (bP JO (pv 3) (pv 1) (cb _)) (ay (jZ hu1 (pv 2) (pv 3) (pv 4) rfl)) bY))))
  (ay (d9 (pv 0) (pv 2) rfl))),?_⟩
 have big:=dY;obtain ⟨nkd,hkd⟩:=qi h2;refine cm (cW fun d hd=>bN ?_);have s1:=aF hd (.dK []);dsimp only;have nf:∀ (ob:Obj) (u:HO),H kd≠some (.frz ob u):=fun ob u z=>by
  rw [hkd] at z
  cases z
 have ndk:d≠k:=(av h1 hd).symm;have ndd:d≠kd:=(av hkd hd).symm;refine cm ⟨_,rfl,k,CK,dx,_,_,rfl,s1 _ _ h1,T.cl,T.nK,Hl _ _ _ _,kd,_,rfl,s1 _ _ hkd,nf,fun od=>?_⟩;refine wV (d:=kd) (od:=od) (kvs:=kvs) (fun i σ G=>∃ (v3 v4:Option V) (ks:List (Key×V)),σ=[some (.ref k),some (.int num),some (.ref d),v3,v4]/\G kd=some (.frz od (.dK kvs))/\(∀ b o,H b=some o->b≠kd->G b=some o)/\G d=some (.dK ks)/\ks.Sublist (kvs.take i)) ⟨_,_,[],rfl,ah,fun b o e n=>?_,?_,List.nil_sublist _⟩ ?_ ?_ ?_
 ·rw [aH n];exact s1 _ _ e
 ·rw [aH ndd];exact ah
 ·rintro i σ G _ ⟨_,_,_,_,h,_⟩;exact h
 ·rintro i kv t σ G hi ⟨v3,v4,ks,rfl,g1,g2,g3,g4⟩ ht;have il:=(aE.mp hi).1;obtain ⟨n,c,r,rfl,_⟩:=h3.at_ kv (bV hi);have st:=aF ht (.tup [.int n,.ref c]);have tk:kvs.take (i + 1)=kvs.take i++[(Sum.inl (n:Int),V.ref c)]:=by
   rw [e9,hi];rfl
  refine ⟨t,_,rfl,SqT.of ah,rfl,_,_,rfl,bN ⟨_,_,rfl,bN ⟨rfl,?_⟩⟩⟩;dsimp only;refine hV ⟨_,rfl,_,rfl,_,_,rfl,rfl,_,rfl,fV (fun _=>?_) (fun _=>?_)⟩
  ·have few:ks.length < aB:=by
    have:=g4.length_le;rw [df] at this;have:=h3.few;omega
   have dp:=qO.k (k:=Sum.inl (n:Int)) (v:=.ref c) (st _ _ g3) few;have nin:(Sum.inl (n:Int):Key)∉ks.map (·.1):=fun z=>by
    have nd2:((kvs.take (i + 1)).map (·.1)).Nodup:=by
     rw [yI];exact h3.nd.sublist (lP _ _)
    rw [tk,cg] at nd2;exact (gF.mp nd2).2.2 _ ((g4.map (·.1)).subset z) (Sum.inl (n:Int)) (by simp) rfl
   rw [zH nin] at dp;refine ⟨_,rfl,_,rfl,_,rfl,d,_,rfl,dp,⟨_,_,ks++[(Sum.inl (n:Int),V.ref c)],rfl,aR (st _ _ g1) ndd.symm,fun b o e nb=>?_,ah,?_⟩⟩
   ·exact aR (st _ _ (g2 _ _ e nb)) (av e hd)
   ·rw [tk];exact g4.append (List.Sublist.refl _)
  ·exact ⟨_,_,ks,rfl,st _ _ g1,fun b o e nb=>st _ _ (g2 _ _ e nb),st _ _ g3,by rw [tk]; exact g4.trans (List.sublist_append_left _ _)⟩
 ·rintro σ G ⟨v3,v4,ks,rfl,g1,g2,g3,g4⟩;rw [dZ] at g4;refine ⟨kd,od,_,g1,nf,?_⟩;have sH:bf H (upd G kd (.dK kvs)):=fun b o e=>by
   by_cases c:b=kd
   ·rw [c,ah];rw [c,hkd] at e;exact e
   ·rw [aH c];exact g2 _ _ e c
  have g3':upd G kd (.dK kvs) d=some (.dK ks):=aR g3 ndd;generalize upd G kd (.dK kvs)=G2 at sH g3';dsimp only;refine ⟨_,rfl,_,rfl,k,CK,dx,_,rfl,sH _ _ h1,T.cl,T.nK,Hm _ _ _ _,?_⟩;rw [B5];have bt:But k H (upd G2 k (.ins CK dx (j1 m s' e (.ref d)))):=fun b o e nb=>aR (sH _ _ e) nb;exact q _ d ks bt ah (aR g3' ndk) hd ⟨fun x hx=>h3.at_ x (g4.subset hx),h3.nd.sublist (g4.map (·.1)),cZ g4.length_le h3.few⟩
abbrev nKi:List Str:=["self","model","signs","every"]
abbrev pKi:List Str:=["self","model","signs","every"]
theorem scKi:bK nKi pKi (aL lH):={}
inductive KN (CK CM:aa) (vs:List V) (H:Hp) (Q:VK) (_e:XK):Prop where
 | mk (Ms:List MD) (es:List Ev) (k dx m0 sg:aa) (ev:Int) (_:vs=[.ref k,.ref m0,.ref sg,.int ev]) (_:H k=some (.ins CK dx [])) (_:MoT CM Ms H m0) (_:Rn CM Ms es H m0 sg) (_:1<=ev) (_:ev<=100) (_:∀ (G:Hp) (m sl:aa) (v:V),But k H G->G k=some (.ins CK dx (j1 (.ref m) (.ref sl) (.int ev) v))->Rn CM Ms es (Hid ⟨[],H⟩ G) m sl->Q .non G):KN CK CM vs H Q _e
def spKi (CK CM:aa):Sp:=fun vs H Q _e=>KN CK CM vs H Q _e
theorem ok_ki (F:Fun K "__init__" "Keeper.__init__" lH f fd) (MM_:Mk K CM fMI) (GMI:bA P w K mg base CX0 31 fMI fdMI ["self","machines"] (LK CM 29)) (bMI:Binds K fdMI ["self","machines"] []) (DCa:Df K mg "course_at_first" eV ["model","signs"] fCa fdCa) (GCa:bA P w K mg base CX0 4 fCa fdCa ["model","signs"] (BU CC CM CS)) (T:KeT K mg CK) (TM:MdT K mg CM CS) (B:Bl mg):bA P w K mg base CX0 33 f fd pKi (spKi CK CM):=by
 refine F.ok scKi (fun vs H Q E h=>?_) (fun cdv A outer s H vs Q E hr h=>?_)
 ·obtain ⟨Ms,es,k,dx,m0,sg,ev,rfl,_⟩:=h;rfl
 obtain ⟨Ms,es,k,dx,m0,sg,ev,rfl,hk,hM,hR,e1,e2,q⟩:=h;have hu1:=kQ hr;have r4:c5 4 _:=hr.mono (by decide);have r32:c5 32 _:=hr;refine ⟨_,aj (d9 (pv 0) (jA MM_ GMI r32 (by rfl) TM.mM bMI .nil bj (ao (eC K (by rfl) (pv 1) (by rfl)) ai)) rfl)
  (aj (d9 (pv 0) (gL (zv K (by rfl)) (by rfl) B.list boot_list (bE (pv 2) ai)) rfl)
  (aj (d9 (pv 0) (cL (wz rfl) (by rfl) B.max boot_max (bE (pv 3) (dC aw ai))) rfl)
  (ay (d9 (pv 0) (Bd (yU aw (aK GCa r4 (by rfl) DCa.m DCa.F.kp DCa.b .nil bj (ao (eC K (by rfl) (pv 0) (by rfl)) (ao (eC K (by rfl) (pv 0) (by rfl)) ai))) Bc) rfl rfl (by simp) (by decide)) rfl)))),?_⟩
 have big:=dY;obtain ⟨dxm,ml,fs,g1,g2,g3,g4⟩:=hM;obtain ⟨svs,hsv,psv⟩:=hR.sg;refine cm (qz ?_);refine ⟨_,rfl,m0,CM,dxm,_,_,rfl,g1,TM.clM,TM.nM,g2,fun m dxn hm hdx ndx=>?_⟩;have sA:bf H (upd (upd H dxn (.own m)) m (.ins CM dxn [])):=fun b o e=>by
  rw [aH (av e hm),aH (av e hdx)];exact e
 refine ⟨m,dxn,.ref ml,rfl,ah,g4.mono sA,fun v' G5 s5 al=>⟨rfl,?_⟩⟩;obtain ⟨ml',rfl,hMo,hTr⟩:=Hn (g3.same sA) (g4.mono sA) al;have kn:H k≠none:=fun z=>by
  rw [hk] at z
  cases z
 have nmk:m≠k:=(av hk hm).symm;have sM:bf H (upd G5 m (.ins CM dxn (cD "machines" (.ref ml') []))):=qY (sA.trans s5) hm _;have mo:∀ {G:Hp},But k (upd G5 m (.ins CM dxn (cD "machines" (.ref ml') []))) G->tR CM Ms (Hid ⟨[],H⟩ G) m:=fun b=>(mo_h hm ndx kn hMo hTr b).at;revert mo sM;generalize upd G5 m (.ins CM dxn (cD "machines" (.ref ml') []))=GM;intro sM mo;clear hMo hTr al s5 sA hdx ndx;refine ⟨_,rfl,k,CK,dx,_,rfl,sM _ _ hk,T.cl,T.nM,(by show 0 < 1000; decide),?_⟩;have b1:But k GM (upd GM k (.ins CK dx (cD "model" (.ref m) []))):=But.upd k GM _;have nsg:sg≠k:=fun z=>by
  rw [z,hk] at hsv
  cases hsv
 refine cm ⟨_,rfl,sg,svs,rfl,.inl (SqL.of (b1 _ _ (sM _ _ hsv) nsg)),fun sl hsl=>⟨_,rfl,k,CK,dx,_,rfl,(aF hsl (.lst svs)) _ _ ah,T.cl,T.nS,(by show 1 < 1000; decide),?_⟩⟩;have nsH:H sl=none:=by
  cases z:H sl with
  | none=>rfl
  | some o =>
   have y:=sM _ _ z
   by_cases c:sl=k
   ·rw [c,ah] at hsl
    cases hsl
   ·rw [aH c,y] at hsl
    cases hsl
 have nsl:sl≠k:=(av (ah:upd GM k (.ins CK dx (cD "model" (.ref m) [])) k=_) hsl).symm;refine cm ⟨_,rfl,ev,1,rfl,_,rfl,k,CK,dx,_,rfl,ah,T.cl,T.nE,(by show 2 < 1000; decide),?_⟩;rw [if_neg (by omega:¬ (1:Int) > ev)];have qk:upd (upd (upd (upd GM k (.ins CK dx (cD "model" (.ref m) []))) sl (.lst svs)) k (.ins CK dx (cD "signs" (.ref sl) (cD "model" (.ref m) [])))) k (.ins CK dx (cD "every" (.int ev) (cD "signs" (.ref sl) (cD "model" (.ref m) [])))) k=some (.ins CK dx [("model",.ref m),("signs",.ref sl),("every",.int ev)]):=ah;have b4:But k GM (upd (upd (upd (upd GM k (.ins CK dx (cD "model" (.ref m) []))) sl (.lst svs)) k (.ins CK dx (cD "signs" (.ref sl) (cD "model" (.ref m) [])))) k (.ins CK dx (cD "every" (.int ev) (cD "signs" (.ref sl) (cD "model" (.ref m) []))))):=(((b1.same (aF hsl _)).trans (But.upd k _ _)).trans (But.upd k _ _));have qs:upd (upd (upd (upd GM k (.ins CK dx (cD "model" (.ref m) []))) sl (.lst svs)) k (.ins CK dx (cD "signs" (.ref sl) (cD "model" (.ref m) [])))) k (.ins CK dx (cD "every" (.int ev) (cD "signs" (.ref sl) (cD "model" (.ref m) [])))) sl=some (.lst svs):=aR (aR ah nsl) nsl;revert qk b4 qs;generalize upd (upd (upd (upd GM k (.ins CK dx (cD "model" (.ref m) []))) sl (.lst svs)) k (.ins CK dx (cD "signs" (.ref sl) (cD "model" (.ref m) [])))) k (.ins CK dx (cD "every" (.int ev) (cD "signs" (.ref sl) (cD "model" (.ref m) []))))=G4;intro qk b4 qs;clear b1 hsl;have rn:∀ {G:Hp},But k G4 G->Rn CM Ms es (Hid ⟨[],H⟩ G) m sl:=fun b=>⟨mo (b4.trans b),hR.lm,⟨svs,by rw [eG (iS nsH)]; exact b _ _ qs nsl,Paired.mono (fun v e ⟨t,e',h⟩=>by
  have nt:t≠k:=fun z=>by
   rw [z,hk] at h
   cases h
  refine ⟨t,e',?_⟩;rw [eG fun z=>?_]
  ·exact b _ _ (b4 _ _ (sM _ _ h) nt) nt
  ·rcases z with z | ⟨o,z,y⟩
   ·cases z
   ·have z:H t=some o:=z;rw [h] at z
    cases z;exact y _ rfl) psv⟩,hR.le,hR.ev⟩
 refine fun d hd=>?_;have sd:=aF hd (.dK []);have R5:=(rn (But.same (But.refl k G4) sd)).same eA;obtain ⟨svs',hsv',psv'⟩:=R5.sg;refine ⟨_,rfl,k,CK,dx,_,_,rfl,sd _ _ qk,T.cl,T.nM,rfl,_,rfl,k,CK,dx,_,_,rfl,sd _ _ qk,T.cl,T.nS,rfl,Ms,m,sl,svs',es,rfl,R5.mo,hR.lm,hsv',psv',hR.le,hR.ev,fun G6 co sl' pl' C=>?_⟩;have s6:bf (upd G4 d (.dK [])) G6:=fun a o e=>(C.sm a o e).2.2.2;refine ⟨s6 _ _ ah,[(Sum.inl 0,.ref co)],rfl,(by show 1<=15; decide),?_⟩;have ndk:k≠d:=av qk hd;refine ⟨_,rfl,k,CK,dx,_,rfl,aR ((sd.trans s6) _ _ qk) ndk,T.cl,T.nK,(by show 3 < 1000; decide),?_⟩;have b7:But k G4 (upd (upd G6 d (.dK (j8 [] [(Sum.inl 0,.ref co)]))) k (.ins CK dx (j1 (.ref m) (.ref sl) (.int ev) (.ref d)))):=fun b o e nb=>aR (aR ((sd.trans s6) _ _ e) (av e hd)) nb;exact q _ m sl (.ref d) (fun b o e nb=>b7 _ _ (b4 _ _ (sM _ _ e) nb) nb) ah (rn b7)
end
theorem Dw:eE "min"=some (.builtin "min"):=by decide +kernel
theorem B6 {Ms:List MD} {r:RS} (mo:Dp Ms) {most:Int}:∀ {i:Nat},(∀ j,j < i->ROk Ms.length (itR Ms r j).1/\gU (itR Ms r j).1 (most - (itR Ms r j).2.length)=none)->(itR Ms r i).1.pd.length<=r.pd.length + 5000 * (itR Ms r i).2.length
 | 0,_=>ve _ _
 | i + 1,h=>by
  have a:=B6 mo (i:=i) fun j hj=>h j (by omega);have q:=h i (by omega);have b:=(q8 (uo mo q.1 (ji q.2).2.1)).1;show (gA Ms (itR Ms r i).1).1.pd.length<=r.pd.length + 5000 * ((itR Ms r i).2++(gA Ms (itR Ms r i).1).2).length;rw [aA];omega
theorem Ho {r:RS} {k k':Int} {e:End} (h:gU r k=some e) (c:e≠.cut\/k'<=0):∃ e',gU r k'=some e':=by
 unfold gU at h |-
 split at h
 ·exact ⟨_,rfl⟩
 ·split at h
  ·rename_i y
   rw [if_pos y];exact ⟨_,rfl⟩
  ·rename_i y
   rw [if_neg y]
   split at h
   ·cases h
    rcases c with c | c
    ·exact absurd rfl c
    ·rw [if_pos c];exact ⟨_,rfl⟩
   ·cases h
theorem JD {r:RS} {k:Int} (h:gU r k=some .cut):k<=0:=by
 unfold gU at h
 split at h
 ·cases h
 ·split at h
  ·cases h
  ·split at h
   ·assumption
   ·cases h
abbrev kx (H:Hp) (k co s p d rl:aa):Ex:=⟨[k,co,s,p,d,rl],H⟩
theorem KO {H:Hp} {k co s p d rl a:aa} (h:a∈kx H k co s p d rl):(a=k\/a=co\/a=s\/a=p\/a=d\/a=rl)\/∃ o,H a=some o/\∀ xs,o≠.tup xs:=by
 rcases h with h | h
 ·have h:a∈[k,co,s,p,d,rl]:=h;exact .inl (by simpa using h)
 ·exact .inr h
theorem iA.kx {CC CS:aa} {Ms:List MD} {Hb G:Hp} {c m sl pl:aa} {r:RS} {ex:Ex} (h:iA CC CS Ms Hb ⟨[c,sl,pl],Hb⟩ G c m sl pl r) (n:∀ a∈ex,∃ o,Hb a=some o/\∀ xs,o≠.tup xs):CoK CC CS m (Hid ex G) c r:=by
 obtain ⟨dx,rv,sv,h1,h2,h3⟩:=h.hc;obtain ⟨ss,h4,h5⟩:=h.hs;obtain ⟨ps,h6,h7⟩:=h.hp;have s:bf (Hid ⟨[c,sl,pl],Hb⟩ G) (Hid ex G):=fun a o e=>by
  have na:a∉ex:=fun z=>by
   obtain ⟨o',e',q⟩:=n a z;exact gR e (.inr ⟨o',e',q⟩)
  rw [eG na];exact eA _ _ e
 have v:∀ {a:aa} {o:HO},a∉ex->G a=some o->Hid ex G a=some o:=fun na e=>by
  rw [eG na];exact e
 have nc:c∉ex:=fun z=>by
  obtain ⟨o',e',_⟩:=n _ z;exact (h.sm _ _ e').1 rfl
 have ns:sl∉ex:=fun z=>by
  obtain ⟨o',e',_⟩:=n _ z;exact (h.sm _ _ e').2.1 rfl
 have np:pl∉ex:=fun z=>by
  obtain ⟨o',e',_⟩:=n _ z;exact (h.sm _ _ e').2.2.1 rfl
 exact ⟨dx,sl,pl,rv,sv,ss,ps,v nc h1,h2.same s,h3.same s,v ns h4,Paired.mono (fun _ _ z=>jq.same' s z) h5,v np h6,Paired.mono (fun _ _ z=>z.same s) h7⟩
structure Kfx (H:Hp) (k co s p d rl:aa) (ex:Ex):Prop where
 ik:k∈ex
 id:d∈ex
 ir:rl∈ex
 nd:Wp k H d=none
 nr:Wp k H rl=none
 k1:co≠k
 k2:s≠k
 k3:p≠k
 d1:co≠d
 d2:s≠d
 d3:p≠d
 r1:co≠rl
 r2:s≠rl
 r3:p≠rl
 kd:k≠d
 kr:k≠rl
 dr:d≠rl
structure Krn (CK CC CS:aa) (Ms:List MD) (es:List Ev) (H:Hp) (k dx m sg co s p d rl:aa) (ev most:Int) (ex:Ex) (G:Hp) (r:RS) (rvs:List V) (kvs:List (Key×V)):Prop where
 c:iA CC CS Ms (Wp k H) ex G co m s p r
 qk:G k=some (.ins CK dx (j1 (.ref m) (.ref sg) (.int ev) (.ref d)))
 qd:G d=some (.dK kvs)
 qr:G rl=some (.lst rvs)
 kp:Kpt CC CS m Ms es (Hid (kx H k co s p d rl) G) kvs
 ku:∀ q∈kvs,∀ x:Int,q.1=Sum.inl x->x<=rvs.length
 kl:kvs.length<=rvs.length + 1
 pd:r.pd.length<=64 + 5000 * rvs.length
 le:(rvs.length:Int)<=most
theorem Krn.same {CK CC CS:aa} {Ms:List MD} {es:List Ev} {H:Hp} {k dx m sg co s p d rl:aa} {ev most:Int} {ex:Ex} {G G':Hp} {r:RS} {rvs:List V} {kvs:List (Key×V)} (s':bf G G') (h:Krn CK CC CS Ms es H k dx m sg co s p d rl ev most ex G r rvs kvs):Krn CK CC CS Ms es H k dx m sg co s p d rl ev most ex G' r rvs kvs:=
 ⟨h.c.same s',s' _ _ h.qk,s' _ _ h.qd,s' _ _ h.qr,h.kp.same (gB s'),h.ku,h.kl,h.pd,h.le⟩
theorem Krn.kx {CK CC CS:aa} {Ms:List MD} {es:List Ev} {H:Hp} {k dx m sg co s p d rl:aa} {ev most:Int} {ex:Ex} {G:Hp} {r:RS} {rvs:List V} {kvs:List (Key×V)} (h:Krn CK CC CS Ms es H k dx m sg co s p d rl ev most ex G r rvs kvs):∀ a∈My.kx H k co s p d rl,∃ o,G a=some o/\∀ xs,o≠.tup xs:=fun a ha=>by
 obtain ⟨_,_,_,h1,_⟩:=h.c.hc;obtain ⟨_,h2,_⟩:=h.c.hs;obtain ⟨_,h3,_⟩:=h.c.hp
 rcases KO ha with (rfl | rfl | rfl | rfl | rfl | rfl) | ⟨o,e,nt⟩
 ·exact ⟨_,h.qk,fun xs z=>by cases z⟩
 ·exact ⟨_,h1,fun xs z=>by cases z⟩
 ·exact ⟨_,h2,fun xs z=>by cases z⟩
 ·exact ⟨_,h3,fun xs z=>by cases z⟩
 ·exact ⟨_,h.qd,fun xs z=>by cases z⟩
 ·exact ⟨_,h.qr,fun xs z=>by cases z⟩
 ·by_cases c:a=k
  ·rw [c];exact ⟨_,h.qk,fun xs z=>by cases z⟩
  ·exact ⟨o,(h.c.sm a o (gI e c)).2.2.2,nt⟩
section
variable {P:aJ} {w:bJ} {K:af} {mg:Str->Option ae} {base:cu} {f fCa fCp fE fR fBk CK CC CM CS CB:aa} {fd fdCa fdCp fdE fdR fdBk:bR}
seal PS PSs PE PA PT PW PI PG PGs PC
abbrev nKr:List Str:=["self","most","course","records","ending","told"]
abbrev pKr:List Str:=["self","most"]
theorem Dx:bK nKr pKr (aL je):={}
inductive KP (CK CC CM CS CB:aa) (vs:List V) (H:Hp) (Q:VK) (_e:XK):Prop where
 | mk (Ms:List MD) (es:List Ev) (k dx m sg:aa) (v:V) (ev most:Int) (_:vs=[.ref k,.int most]) (_:H k=some (.ins CK dx (j1 (.ref m) (.ref sg) (.int ev) v))) (_:Rn CM Ms es (Wp k H) m sg) (_:1<=ev) (_:ev<=100) (_:0<=most) (_:most<=40) (_:∀ (G:Hp) (b dxb rl kd:aa) (en sv:V) (rvs:List V) (kvs:List (Key×V)),But k H G->G b=some (.ins CB dxb (F0 (.ref rl) en sv))->G rl=some (.lst rvs)->rvs.length<=100->G k=some (.ins CK dx (j1 (.ref m) (.ref sg) (.int ev) (.ref kd)))->Hid ⟨[],H⟩ G kd=some (.dK kvs)->Kpt CC CS m Ms es (Hid ⟨[],H⟩ G) kvs->Q (.ref b) G):KP CK CC CM CS CB vs H Q _e
def spKr (CK CC CM CS CB:aa):Sp:=fun vs H Q _e=>KP CK CC CM CS CB vs H Q _e
theorem ok_kr (F:Fun K "run" "Keeper.run" je f fd) (DCa:Df K mg "course_at_first" eV ["model","signs"] fCa fdCa) (GCa:bA P w K mg base CX0 4 fCa fdCa ["model","signs"] (BU CC CM CS)) (MCp:Mt K CC "copy" "Course.copy" gC pCc fCp fdCp) (GCp:bA P w K mg base CX0 4 fCp fdCp pCc (Hj CC CS)) (ME:Mt K CC "ending_due" "Course.ending_due" eY ["self","left"] fE fdE) (GE:bA P w K mg base CX0 1 fE fdE ["self","left"] (Mo CC CS))
  (DR:Df K mg "run_on" lY ["course","most"] fR fdR) (GR:bA P w K mg base CX0 39 fR fdR ["course","most"] (BP CC CM CS)) (MB:Mk K CB fBk) (bB:Binds K fdBk ["self","records","ending","states"] []) (GB:bA P w K mg base CX0 1 fBk fdBk ["self","records","ending","states"] (Me CB)) (T:KeT K mg CK) (TC:CoT K mg CC) (TB:BkT K mg CB) (B:Bl mg) (MM:mg "min"=none):bA P w K mg base CX0 40 f fd pKr (spKr CK CC CM CS CB):=by
 refine F.ok Dx (fun vs H Q E h=>?_) (fun cdv A outer s H vs Q E hr h=>?_)
 ·obtain ⟨Ms,es,k,dx,m,sg,v,ev,most,rfl,_⟩:=h;rfl
 obtain ⟨Ms,es,k,dx,m,sg,v,ev,most,rfl,hk,hR,e1,e2,mo0,mo40,q⟩:=h;have hu1:=kQ hr;have r1:c5 1 _:=hr.mono (by decide);have r2:c5 2 _:=hr.mono (by decide);have r4:c5 4 _:=hr.mono (by decide);have r39:c5 39 _:=hr;refine ⟨_,aj (bC (i:=2) Dx.nd rfl (Or.inl rfl) (aK GCa r4 (by rfl) DCa.m DCa.F.kp DCa.b .nil bj (ao (eC K (by rfl) (pv 0) (by rfl)) (ao (eC K (by rfl) (pv 0) (by rfl)) ai))))
  (aj (d9 (pv 0) (Bd (yU aw (iK (pv 2) TC.cl MCp.m GCp r4 MCp.b .nil bj) Bc) rfl rfl (by simp) (by decide)) rfl)
  (aj (bC (i:=3) Dx.nd rfl (Or.inl rfl) (eS ai))
  (aj (bC (i:=4) Dx.nd rfl (Or.inl rfl) (fJ (pv 2) TC.cl ME.m GE r1 ME.b .nil bj (bE (pv 1) ai)))
  (aj (uD cR (qj (Ei (pv 4))) (aj (bC (i:=5) Dx.nd rfl (Or.inl rfl) (aK GR r39 (by rfl) DR.m DR.F.kp DR.b .nil bj (bE (pv 2) (iN (cL (Co rfl) (by rfl) MM Dw (ao (eC K (by rfl) (pv 0) (by rfl)) (rg (cT jv (pv 1) (cL (fg K (by rfl)) (by rfl) B.len cA (bE (pv 3) ai))) ai))) ai))))
  (aj (eI (lQ bZ PySem.F.slot_list_extend PySem.F.type_list_extend Cu (pv 3) (qC (bU cz (pv 5) aw (fun _ _=>rfl)) ai)))
  (aj (cS (bP e7 (cL (fg K (by rfl)) (by rfl) B.len cA (qC (bU cz (pv 5) aw (fun _ _=>rfl)) ai)) (eC K (by rfl) (pv 0) (by rfl)) (cb _)) (ay (jZ hu1 (eC K (by rfl) (pv 0) (by rfl)) (cL (fg K (by rfl)) (by rfl) B.len cA (bE (pv 3) ai)) (iK (pv 2) TC.cl MCp.m GCp r4 MCp.b .nil bj) rfl)) bY)
  (ay (bC (i:=4) Dx.nd rfl (Or.inl rfl) (fJ (pv 2) TC.cl ME.m GE r1 ME.b .nil bj (rg (cT jv (pv 1) (cL (fg K (by rfl)) (by rfl) B.len cA (bE (pv 3) ai))) ai))))))))
  (ay (bM (jA MB GB r2 (by rfl) TB.m bB .nil bj (bE (pv 3) (bE (pv 4) (ao (eC K (by rfl) (pv 2) (by rfl)) ai)))))))))),?_⟩
 have big:=dY;have mo:=hR.mo.ok;obtain ⟨svs,hsv,psv⟩:=hR.sg;have wle:=pV k H
 -- the course
 refine cm (cW ⟨_,rfl,k,CK,dx,_,_,rfl,hk,T.cl,T.nM,ke_m _ _ _ _,_,rfl,k,CK,dx,_,_,rfl,hk,T.cl,T.nS,ke_s _ _ _ _,Ms,m,sg,svs,es,rfl,hR.mo.same wle,hR.lm,wle _ _ hsv,Paired.mono (fun _ _ z=>z.same wle) psv,hR.le,hR.ev,fun G1 co s' p' C1=>bN ?_⟩);dsimp only;have kn:H k≠none:=fun z=>by
  rw [hk] at z
  cases z
 have sm1:∀ b o,H b=some o->b≠co/\b≠s'/\b≠p'/\G1 b=some o:=C1.sm;obtain ⟨nkc,nks,nkp,hk1⟩:=sm1 _ _ hk;have ik0:k∈(⟨[co,s',p'],H⟩:Ex):=.inr ⟨_,hk,fun xs z=>by cases z⟩;have C1:=C1.weak wle
 -- the first mark
 refine cm fun d hd=>?_;have sd:=aF hd (.dK []);have C2:=C1.more hd (o:=.dK []) (fun xs z=>by cases z);obtain ⟨dxc,rvc,svc,hco,_⟩:=id C2.hc;refine ⟨_,rfl,co,dxc,_,rfl,hco,vp _ _ _ _ _ (by decide +kernel),Ms,co,m,_,rfl,C2.k,C2.rst,hR.lm,?_,fun G2 c0 sl0 pl0 CC0=>?_⟩
 ·show (og (p5 es) []).length<=1000000;rw [(gf _ _).length_eq,cE,mw];have:=hR.le;omega
 have s2:bf (upd G1 d (.dK [])) G2:=fun a o e=>(CC0.sm a o e).2.2.2;have hd2:=s2 _ _ (jj hd (.dK []));refine ⟨hd2,[(Sum.inl 0,.ref c0)],rfl,(by show 1<=15; decide),?_⟩;have nkd:k≠d:=av hk1 hd;have hk2:=(sd.trans s2) _ _ hk1;refine ⟨_,rfl,k,CK,dx,_,rfl,aR hk2 nkd,T.cl,T.nK,Hm _ _ _ _,?_⟩;rw [B5];have Hd:H d=none:=by
  cases z:H d with
  | none=>rfl
  | some o =>
   rw [(sm1 _ _ z).2.2.2] at hd
   cases hd
 have nd:Wp k H d=none:=by
  unfold Wp;rw [if_neg nkd.symm];exact Hd
 have id0:d∈(⟨[co,s',p'],H⟩:Ex).add d:=Ex.here;have dne:co≠d/\s'≠d/\p'≠d:=by
  obtain ⟨_,_,_,y1,_⟩:=C1.hc;obtain ⟨_,y2,_⟩:=C1.hs;obtain ⟨_,y3,_⟩:=C1.hp;exact ⟨av y1 hd,av y2 hd,av y3 hd⟩
 have wk0:Wp k H k=none:=by
  unfold Wp;rw [if_pos rfl]
 have C3:=((C2.same s2).upd (a:=d) (o:=.dK (j8 [] [(Sum.inl 0,.ref c0)])) id0 nd dne.1 dne.2.1 dne.2.2 (fun xs z=>by cases z)).upd (a:=k) (o:=.ins CK dx (j1 (.ref m) (.ref sg) (.int ev) (.ref d))) (Ex.more ik0) wk0 nkc.symm nks.symm nkp.symm (fun xs z=>by cases z);have qk3:=(ah:upd (upd G2 d (.dK (j8 [] [(Sum.inl 0,.ref c0)]))) k (.ins CK dx (j1 (.ref m) (.ref sg) (.int ev) (.ref d))) k=_);have qd3:upd (upd G2 d (.dK (j8 [] [(Sum.inl 0,.ref c0)]))) k (.ins CK dx (j1 (.ref m) (.ref sg) (.int ev) (.ref d))) d=some (.dK [(Sum.inl 0,.ref c0)]):=aR ah nkd.symm;have K0:∀ {ex':Ex} (_:∀ a∈ex',a≠k->a≠d->∃ o,upd G1 d (.dK []) a=some o/\∀ xs,o≠.tup xs) (_:k∈ex') (_:d∈ex'),CoK CC CS m (Hid ex' (upd (upd G2 d (.dK (j8 [] [(Sum.inl 0,.ref c0)]))) k (.ins CK dx (j1 (.ref m) (.ref sg) (.int ev) (.ref d))))) c0 (kN Ms es):=fun hx ik id=>by
  rw [hU ik,hU id];refine CC0.kx fun a ha=>?_
  by_cases c1:a=k
  ·rw [c1];exact ⟨_,sd _ _ hk1,fun xs z=>by cases z⟩
  ·by_cases c2:a=d
   ·rw [c2];exact ⟨_,jj hd _,fun xs z=>by cases z⟩
   ·exact hx a ha c1 c2
 have K1:=K0 (ex':=⟨[k,co,s',p',d],H⟩) (fun a ha c1 c2=>by
  obtain ⟨_,_,_,y1,_⟩:=C2.hc;obtain ⟨_,y2,_⟩:=C2.hs;obtain ⟨_,y3,_⟩:=C2.hp
  rcases ha with ha | ⟨o,e,nt⟩
  ·have ha:a∈[k,co,s',p',d]:=ha;simp only [au,aS,or_false] at ha
   rcases ha with ha | rfl | rfl | rfl | ha
   ·exact absurd ha c1
   ·exact ⟨_,y1,fun xs z=>by cases z⟩
   ·exact ⟨_,y2,fun xs z=>by cases z⟩
   ·exact ⟨_,y3,fun xs z=>by cases z⟩
   ·exact absurd ha c2
  ·exact ⟨o,sd _ _ (sm1 _ _ e).2.2.2,nt⟩) (.inl (by simp)) (.inl (by simp))
 revert C3 qk3 qd3 K1;clear K0;generalize upd (upd G2 d (.dK (j8 [] [(Sum.inl 0,.ref c0)]))) k (.ins CK dx (j1 (.ref m) (.ref sg) (.int ev) (.ref d)))=G3;intro C3 qk3 qd3 K1
 -- the records
 dsimp only;refine cm (cW ⟨bT _,fun rl hrl=>bN ?_⟩);dsimp only;have sr:=aF hrl (.lst []);have C4:=C3.more hrl (o:=.lst []) (fun xs z=>by cases z);have rne:co≠rl/\s'≠rl/\p'≠rl:=by
  obtain ⟨_,_,_,y1,_⟩:=C3.hc;obtain ⟨_,y2,_⟩:=C3.hs;obtain ⟨_,y3,_⟩:=C3.hp;exact ⟨av y1 hrl,av y2 hrl,av y3 hrl⟩
 have nr:Wp k H rl=none:=by
  cases z:Wp k H rl with
  | none=>rfl
  | some o =>
   rw [(C3.sm _ _ z).2.2.2] at hrl
   cases hrl
 have fx:Kfx H k co s' p' d rl (((⟨[co,s',p'],H⟩:Ex).add d).add rl):=⟨Ex.more (Ex.more ik0),Ex.more id0,Ex.here,nd,nr,nkc.symm,nks.symm,nkp.symm,dne.1,dne.2.1,dne.2.2,rne.1,rne.2.1,rne.2.2,nkd,av qk3 hrl,av qd3 hrl⟩;have mr:=mrk_0 Ms es;have R4:Krn CK CC CS Ms es H k dx m sg co s' p' d rl ev most (((⟨[co,s',p'],H⟩:Ex).add d).add rl) (upd G3 rl (.lst [])) (kN Ms es) [] [(Sum.inl 0,.ref c0)]:=by
  refine ⟨C4,sr _ _ qk3,sr _ _ qd3,ah,⟨fun x hx=>?_,cF.mpr ⟨(fun z=>by cases z),iC⟩,by show 1<=50; decide⟩,fun x hx y e=>?_,aC _,?_,mo0⟩
  ·rw [aD.mp hx];refine ⟨0,c0,kN Ms es,rfl,K1.same fun a o e=>?_,C4.rst,mr,?_⟩
   ·have ha:=eA _ _ e;have ne:=av ha hrl;rw [eG fun z=>?_]
    ·exact aR ha ne
    ·rcases KO z with z | z
     case inr=>exact gR e (.inr z)
     refine gR e (.inl ?_);show a∈[k,co,s',p',d];simp only [au,aS,or_false]
     rcases z with z | z | z | z | z | z
     ·exact .inl z
     ·exact .inr (.inl z)
     ·exact .inr (.inr (.inl z))
     ·exact .inr (.inr (.inr (.inl z)))
     ·exact .inr (.inr (.inr (.inr z)))
     ·exact absurd z ne
   ·show (og (p5 es) []).length<=1000000;rw [(gf _ _).length_eq,cE,mw];have:=hR.le;omega
  ·rw [aD.mp hx] at e
   cases e;exact vH _
  ·show (og (p5 es) []).length<=64 + 5000 * 0;rw [(gf _ _).length_eq,cE,mw];have:=hR.le;omega
 revert R4;generalize (((⟨[co,s',p'],H⟩:Ex).add d).add rl)=ex at fx;generalize upd G3 rl (.lst [])=G4;intro R4;clear C4 C3 K1 sr hrl qk3 qd3 C2 CC0 hd2 s2 hco hk2 sd
 -- its ending
 have R4c:=R4.c;obtain ⟨dx4,rv4,sv4,hc4,_⟩:=id R4.c.hc;refine cm (cW ⟨_,rfl,co,dx4,_,rfl,hc4,vp _ _ _ _ _ (by decide +kernel),_,rfl,Ms,Wp k H,ex,co,m,s',p',_,most,rfl,R4.c,fun en G5 s5 hen=>bN ?_⟩);dsimp only;have R5:=R4.same s5;have rm:∀ {rr:RS} {ll:Int} {v:V} {G:Hp},((gU rr ll=none/\v=.non)\/∃ e,gU rr ll=some e/\pz (Hid ex G) v e)->(gU rr ll=none/\v=.non)\/v≠.non:=fun h=>by
  rcases h with h | ⟨e,_,h⟩
  ·exact .inl h
  ·refine .inr fun z=>?_;subst z
   cases e with
   | empty =>
    obtain ⟨t,e',_⟩:=h
    cases e'
   | cut =>
    obtain ⟨t,e',_⟩:=h
    cases e'
   | stp st =>
    cases st with
    | fin x =>
     obtain ⟨t,kk,e',_⟩:=h
     cases e'
    | flt y x =>
     obtain ⟨t,kk,e',_⟩:=h
     cases e'
 refine wc (fun σ' G=>∃ (r:RS) (en:V) (u5:Option V) (rvs:List V) (kvs:List (Key×V)),σ'=[some (.ref k),some (.int most),some (.ref co),some (.ref rl),some en,u5]/\Krn CK CC CS Ms es H k dx m sg co s' p' d rl ev most ex G r rvs kvs) ?_ ?_
 rotate_left
 ·intro N hN;refine ⟨fun mm σ G=>∃ (r:RS) (en:V) (u5:Option V) (rvs:List V) (kvs:List (Key×V)),σ=[some (.ref k),some (.int most),some (.ref co),some (.ref rl),some en,u5]/\Krn CK CC CS Ms es H k dx m sg co s' p' d rl ev most ex G r rvs kvs/\((en=.non/\gU r (most - rvs.length)=none/\Mrk Ms es rvs.length r/\mm=(most - rvs.length).toNat + 1)\/(en≠.non/\mm=0)),?_,?_⟩
  ·rcases rm hen with ⟨h1,h2⟩ | h
   ·exact ⟨_,_,_,_,_,_,rfl,R5,.inl ⟨h2,by rw [show most - (([]:List V).length:Int)=most from Int.sub_zero _]; exact h1,mr,rfl⟩⟩
   ·exact ⟨_,_,_,_,_,_,rfl,R5,.inr ⟨h,rfl⟩⟩
  ·rintro mm σ G ⟨r,en,u5,rvs,kvs,rfl,RG,hw⟩;refine ⟨_,rfl,_,rfl,?_⟩
   rcases hw with ⟨rfl,due,mk,rfl⟩ | ⟨ne,rfl⟩
   ·refine iL ?_;refine ⟨_,fun _ _ h=>h,?_⟩;have left0:=(ji due).2.2;obtain ⟨kk,hkk,k1,k2,k3,k4⟩:∃ kk:Int,(if most - (rvs.length:Int) < ev then most - (rvs.length:Int) else ev)=kk/\0 < kk/\kk<=ev/\kk<=most - rvs.length/\(kk=ev\/kk=most - rvs.length):=by
     by_cases c:most - (rvs.length:Int) < ev
     ·exact ⟨_,if_pos c,by omega,by omega,by omega,.inr rfl⟩
     ·exact ⟨_,if_neg c,by omega,by omega,by omega,.inl rfl⟩
    refine cm (cW ⟨_,rfl,_,rfl,k,CK,dx,_,_,rfl,RG.qk,T.cl,T.nE,ke_e _ _ _ _,_,rfl,_,rfl,rl,_,rfl,.inl (SqL.of RG.qr),_,_,rfl,rfl,ev,most - rvs.length,rfl,?_⟩);rw [hkk];have pdG:=RG.pd;have leG:=RG.le;refine ⟨Ms,Wp k H,ex,co,m,s',p',r,kk,rfl,hR.mo,RG.c,by omega,by omega,fun G2 t i e R=>bN ?_⟩;dsimp only;obtain ⟨rl2,en2,rvs2,g1,g2,_,g3,_⟩:=R.rs;have l2:=aZ g3;have few:=xi mo R.st (by omega);have ilen:=B6 mo R.st.1;have oth:=R.ot;have qk2:=oth _ fx.k1.symm fx.k2.symm fx.k3.symm _ RG.qk;have qd2:=oth _ fx.d1.symm fx.d2.symm fx.d3.symm _ RG.qd;have qr2:=oth _ fx.r1.symm fx.r2.symm fx.r3.symm _ RG.qr;have nrl:rl2≠rl:=fun z=>gR g2 (z ▸ fx.ir);have kp2:Kpt CC CS m Ms es (Hid (kx H k co s' p' d rl) G2) kvs:=RG.kp.same fun a o e=>by
     have na:=gR e;rw [eG na];have ni:∀ {b:aa},b∈[k,co,s',p',d,rl]->a≠b:=fun hb z=>na (.inl (by rw [z]; exact hb));exact oth a (ni (by simp)) (ni (by simp)) (ni (by simp)) o (eA _ _ e)
    have hlt:G2 t=some (.tup [.ref rl2,en2]):=eA _ _ g1;have hl2:G2 rl2=some (.lst rvs2):=eA _ _ g2;refine cm ⟨_,rfl,.inl ⟨rfl,_,SqL.of qr2⟩,_,rfl,t,_,_,_,rfl,rfl,SqT.of hlt,rfl,rl,rl2,rvs,rvs2,rfl,rfl,qr2,hl2,by omega,?_⟩;have C3:=R.cc.upd (a:=rl) (o:=.lst (rvs++rvs2)) fx.ir fx.nr fx.r1 fx.r2 fx.r3 (fun xs z=>by cases z);have lapp:(rvs++rvs2).length=rvs.length + rvs2.length:=aA;have R3:Krn CK CC CS Ms es H k dx m sg co s' p' d rl ev most ex (upd G2 rl (.lst (rvs++rvs2))) (itR Ms r i).1 (rvs++rvs2) kvs:=by
     refine ⟨C3,aR qk2 fx.kr,aR qd2 fx.dr,ah,?_,fun q hq x e=>?_,?_,?_,?_⟩
     ·rw [hU (.inl (by simp))];exact kp2
     ·have:=RG.ku q hq x e;rw [lapp];omega
     ·have:=RG.kl;rw [lapp];omega
     ·rw [lapp];omega
     ·rw [lapp];omega
    have hlt3:upd G2 rl (.lst (rvs++rvs2)) t=some (.tup [.ref rl2,en2]):=aR hlt (fun z=>by
     rw [z,qr2] at hlt
     cases hlt)
    have hl3:upd G2 rl (.lst (rvs++rvs2)) rl2=some (.lst rvs2):=aR hl2 nrl;revert R3 hlt3 hl3;clear C3 qk2 qd2 qr2 kp2;generalize upd G2 rl (.lst (rvs++rvs2))=G3;intro R3 hlt3 hl3;dsimp only;refine wc (fun σ' G'=>σ'=[some (.ref k),some (.int most),some (.ref co),some (.ref rl),some .non,some (.ref t)]/\(∃ kvs',Krn CK CC CS Ms es H k dx m sg co s' p' d rl ev most ex G' (itR Ms r i).1 (rvs++rvs2) kvs')/\((Mrk Ms es (rvs++rvs2).length (itR Ms r i).1/\0 < rvs2.length)\/∃ e',gU (itR Ms r i).1 (most - (rvs++rvs2).length)=some e')) ?_ ?_
    rotate_left
    ·intro N' hN';refine hV ⟨_,rfl,t,_,_,_,rfl,rfl,SqT.of hlt3,rfl,rl2,rvs2,rfl,.inl (SqL.of hl3),_,rfl,k,CK,dx,_,_,rfl,R3.qk,T.cl,T.nE,ke_e _ _ _ _,rfl,_,rfl,fV (fun c=>?_) (fun c=>?_)⟩
     ·have c:(rvs2.length:Int)=ev:=V.int.inj (of_decide_eq_true c);have full:((itR Ms r i).2.length:Int)=kk:=by omega
      obtain ⟨mk',ik⟩:=mk.full mo R.st full;have ei:rvs.length + i=(rvs++rvs2).length:=by rw [lapp]; omega
      rw [ei] at mk';obtain ⟨dx3,rv3,sv3,hc3,_⟩:=id R3.c.hc;have pd3:=R3.pd;have le3:=R3.le;refine ⟨_,rfl,co,dx3,_,rfl,hc3,vp _ _ _ _ _ (by decide +kernel),Ms,co,m,_,rfl,R3.c.k,R3.c.rst,hR.lm,by omega,fun G4' c1 sl1 pl1 CC1=>?_⟩;have s4:bf G3 G4':=fun a o e=>(CC1.sm a o e).2.2.2;have R4':=R3.same s4;have nin:(Sum.inl ((rvs++rvs2).length:Int):Key)∉kvs.map (·.1):=fun z=>by
       obtain ⟨x,hx,e⟩:=cC.mp z;have:=RG.ku x hx _ e;rw [lapp] at this;omega
      have fk:kvs.length < aB:=by
       have:=RG.kp.few;omega
      have dp:=qO.k (k:=Sum.inl ((rvs++rvs2).length:Int)) (v:=.ref c1) R4'.qd fk;rw [zH nin] at dp;refine ⟨_,rfl,k,CK,dx,_,_,rfl,R4'.qk,T.cl,T.nK,Hl _ _ _ _,_,rfl,rl,_,rfl,.inl (SqL.of R4'.qr),d,_,rfl,dp,hN' _ _ ⟨rfl,⟨kvs++[(Sum.inl ((rvs++rvs2).length:Int),.ref c1)],?_⟩,.inl ⟨mk',by omega⟩⟩⟩;refine ⟨R4'.c.upd (a:=d) fx.id fx.nd fx.d1 fx.d2 fx.d3 (fun xs z=>by cases z),aR R4'.qk fx.kd,ah,aR R4'.qr fx.dr.symm,⟨fun q hq=>?_,?_,?_⟩,fun q hq x e=>?_,?_,R4'.pd,R4'.le⟩
      ·rw [hU (.inl (by simp))]
       rcases cq.mp hq with z | z
       ·exact R4'.kp.at_ q z
       ·rw [aD.mp z];exact ⟨(rvs++rvs2).length,c1,_,rfl,CC1.kx R3.kx,R3.c.rst,mk',by omega⟩
      ·rw [cg];exact xI RG.kp.nd nin
      ·rw [aA];show kvs.length + 1<=50;have:=RG.kl;omega
      ·rcases cq.mp hq with z | z
       ·have:=RG.ku q z x e;rw [lapp];omega
       ·rw [aD.mp z] at e
        cases e;exact vH _
      ·rw [aA];show kvs.length + 1<=_;have:=RG.kl;rw [lapp];omega
     ·have c:(rvs2.length:Int)≠ev:=fun z=>c (by rw [z]; exact decide_eq_true rfl);refine hN' _ _ ⟨rfl,⟨kvs,R3⟩,.inr ?_⟩;refine Ho R.st.2.1 ?_
      by_cases ce:e=.cut
      ·right
       have z:=R.st.2.1;rw [ce] at z;have:=JD z;rw [lapp];omega
      ·exact .inl ce
    rintro _ G4' ⟨rfl,⟨kvs',R4'⟩,nxt⟩;obtain ⟨dx3,rv3,sv3,hc3,_⟩:=id R4'.c.hc;refine cW ⟨_,rfl,co,dx3,_,rfl,hc3,vp _ _ _ _ _ (by decide +kernel),_,rfl,_,rfl,rl,_,rfl,.inl (SqL.of R4'.qr),_,_,rfl,rfl,Ms,Wp k H,ex,co,m,s',p',_,most - (rvs++rvs2).length,rfl,R4'.c,fun en' G6 s6 hen'=>bN ?_⟩;dsimp only;have R6:=R4'.same s6
    rcases rm hen' with ⟨h1,rfl⟩ | h
    ·rcases nxt with ⟨mk',pos⟩ | ⟨e',y⟩
     ·have le6:=R6.le;exact ⟨(most - ((rvs++rvs2).length:Int)).toNat + 1,by rw [lapp]; omega,_,_,_,_,_,rfl,R6,.inl ⟨rfl,h1,mk',rfl⟩⟩
     ·rw [h1] at y
      cases y
    ·exact ⟨0,by omega,_,_,_,_,_,rfl,R6,.inr ⟨h,rfl⟩⟩
   ·rw [decide_eq_false ne];exact fZ (hN _ _ ⟨_,_,_,_,_,rfl,RG⟩)
 rintro _ G ⟨r,en,u5,rvs,kvs,rfl,RG⟩;obtain ⟨dx3,rv3,sv3,hc3,_⟩:=id RG.c.hc;refine fb (qz ?_);refine ⟨_,rfl,_,rfl,_,rfl,co,CC,dx3,_,_,rfl,hc3,TC.cl,TC.nS,Gi _ _ _ _ _,fun b dxb hb hdx nb=>⟨b,dxb,_,_,_,rfl,ah,fun G' hG' but=>⟨rfl,?_⟩⟩⟩;have sgb:bf G G':=fun a o e=>but _ _ (aR (aR e (av e hdx)) (av e hb)) (av e hb);have RG':=RG.same sgb;have le':=RG'.le;have Hdn:H d=none:=by
  have:=fx.nd;unfold Wp at this;rw [if_neg fx.kd.symm] at this;exact this
 refine q G' b dxb rl d en (.ref s') rvs kvs (fun a o e na=>(RG'.c.sm a o (gI e na)).2.2.2) hG' RG'.qr (by omega) RG'.qk (by rw [eG (iS Hdn)]; exact RG'.qd) (RG'.kp.same fun a o e=>?_);rw [eG fun z=>?_]
 ·exact eA _ _ e
 ·rcases z with z | z
  ·cases z
  ·exact gR e (.inr z)
end
end My
namespace L2
open PySem PySem.Spec PyProof.Rows
section
variable {X:Cx}
theorem wg:jH X (.builtin "isinstance") (fun xs H Q=>∃ a C tp,∃ as:List aa,∃ b,xs=[.ref a,.ref tp]/\H tp=some (.tup (as.map V.ref))/\H a=some (XO a C)/\mX X.K C/\vE X.K (.ref C) (as.map Value.ref)=some b/\Q (.bl b) H):=by
 intro pins s σ H xs us Q I r h;obtain ⟨a,C,tp,as,b,rfl,et,e,cl,k,q⟩:=h;obtain ⟨u,w',rfl,rx,rt⟩:=vals2 r
 cases (show u=Value.ref a from rx)
 cases (show w'=Value.ref tp from rt);obtain ⟨ox,J⟩:=(Aw I.hok e).inst;obtain ⟨hlen,its,rv,ob,ho,hc,m,hd⟩:=I.hok tp _ et;have hi:its=as.map Value.ref:=by
  clear k et ho hd q hlen
  induction as generalizing its with
  | nil=>cases rv; rfl
  | cons a as ih =>
   cases rv with
   | cons h t=>rw [bQ,<- ih (rv:=t)]; cases (show _=Value.ref a from h); rfl
 obtain ⟨oc,odd,odt,osl⟩:=ob;dsimp only at hc hd;subst hc hd;exact PySem.W.kia_tup (zd cl) I.kIn J ho (by rw [hi]; exact k) (fun z=>nomatch z) fun tk=>⟨.bl b,H,I.tok _,rfl,q⟩
variable {CX:CXT} {k:Nat} {f C:aa} {fd:bR} {ps:List Str} {sp:Sp} {E:St->XK} {m:Str} {apos pos:Pos} {o e:cM} {es:List cM} {ta:TE} {t:TA}
def MY (C:aa) (m:Str) (sp:Sp) (E:St->XK) (ta:TE) (t:TA):TE:=fun σ H Q=>ta σ H fun x H1=>∃ a dx fs,x=.ref a/\H1 a=some (.ins C dx fs)/\fs.lookup m=none /\
 t σ H1 fun vs H2=>sp (x :: vs) H2 Q (E σ)
theorem Hq {pl:Sem Bool} (he:PE X o ta) (c:Cls X.K C) (hm:vK X.K C m f) (F:bA X.prog X.w X.K X.mg X.base CX k f fd ps sp) (hr:c5 k X.A) (hb:Binds X.K fd ps []) (hx:xM CX X E) (ha:PA X (e :: es) t)
  (hst:cw (e :: es) X.env=(false,fc e X.env) :: cw es X.env:=by rfl) (hpl:(ia pos (cw es X.env)).any (·.1)=false:=by rfl)
  (ht:fc (.Call (.Attribute o m apos) (e :: es) [] pos) X.env=(do
   let ov <- fc o X.env
   sQ apos.atName
   let (f,first) <- om [ov] (j6 ov m pl)
   vL pos f first (ia pos (cw (e :: es) X.env)) (kJ pos (hZ [] X.env))):=by rfl) :
  PE X (.Call (.Attribute o m apos) (e :: es) [] pos) (MY C m sp E ta t):=by
 intro pins s σ H Q I h;refine hJ (pl:=pl) (thn (he pins s σ H _ I h) fun u s1 ⟨x,H1,I1,rx,a,dx,fs,ex,ea,l,q⟩=>?_) ht;subst ex;obtain rfl:u=Value.ref a:=rx;refine mJ I1 ea c hm l ?_;refine iT (first:=[.ref a]) (h₀:=X.base) I.ok.mod.kin hm.kp (thn (ha pos pins s1 σ H1 _ I1 q) fun us s2 ⟨vs,H2,I2,r,q2⟩=>⟨I2.kIn,?_⟩) hst hpl;have r':cU (V.ref a :: vs) (Value.ref a :: us):=.cons rfl r;have hl:(Value.ref a :: us).length=ps.length:=by
  rw [<- r'.length];exact F.len _ _ _ _ q2
 have hb1:=hb s2 (Value.ref a :: us) I2.kIn (by rw [cE]; exact hl);rw [cE] at hb1;refine mK (jS (F.run X.A X.stack s2 H2 ⟨Value.ref a :: us,[]⟩ (Value.ref a :: us) (V.ref a :: vs) Q (E σ) hr I2.env0 hb1 r' q2) fun r s' hq=>?_)
 cases r with
 | error e=>exact hx pins σ H2 s2 e s' I2 hq
 | ok fl =>
  cases fl with
  | ret u=>exact I2.after hq
  | next=>exact cH hq
  | brk=>exact cH hq
  | cont=>exact cH hq
end
end L2
namespace My
open PySem L2
theorem Dy:eE "ValueError"=some (.type "ValueError"):=by decide +kernel
section
variable {P:aJ} {w:bJ} {K:af} {mg:Str->Option ae} {base:cu} {f fG CK CC CM CS CN CE:aa} {fd fdG:bR}
seal PS PSs PE PA PT PW PI PG PGs PC
abbrev nAk:List Str:=["_law_keeper","_law_number","_law_most","_law_told","e"]
theorem zI:bK nAk ["_law_keeper","_law_number","_law_most"] (aL kW):={}
inductive KQ (CK CC CM CS CN:aa) (vs:List V) (H:Hp) (Q:VK) (_e:XK):Prop where
 | mk (Ms:List MD) (es:List Ev) (k m sl kd:aa) (ev n most:Int) (kvs:List (Key×V)) (_:vs=[.ref k,.int n,.int most]) (_:AZ CK CC CM CS Ms es H k m sl kd ev kvs) (_:most<=1000) (_:(n∉p6 kvs->∀ ea,H ea=none->Q (.ref ea) (upd H ea (XO ea CN)))) (_:∀ (G:Hp) (t rl:aa) (en:V) (rvs:List V) (nn i:Nat) (r:RS) (e:End),n∈p6 kvs->n=nn->Mrk Ms es nn r->pA Ms r most i e->bf H G->G t=some (.tup [.ref rl,en])->G rl=some (.lst rvs)->H rl=none->aP (RcIn G) rvs (itR Ms r i).2->pz G en e->Q (.ref t) G):KQ CK CC CM CS CN vs H Q _e
def spAk (CK CC CM CS CN:aa):Sp:=fun vs H Q _e=>KQ CK CC CM CS CN vs H Q _e
theorem ok_ak (D:Df K mg "_law_asked" kW ["_law_keeper","_law_number","_law_most"] f fd) (MG:Mt K CK "go_on" "Keeper.go_on" ig pKg fG fdG) (GG:bA P w K mg base (CXo P w) 40 fG fdG pKg (spKg CK CC CM CS CN)) (T:KeT K mg CK) (mE:mg "MomentError"=some (.ref CE)) (xE:cN K (.ref CN) (.ref CE)=some true):bA P w K mg base CX0 41 f fd ["_law_keeper","_law_number","_law_most"] (spAk CK CC CM CS CN):=by
 refine D.F.ok zI (fun vs H Q E h=>?_) (fun cdv A outer s H vs Q E hr h=>?_)
 ·obtain ⟨Ms,es,k,m,sl,kd,ev,n,most,kvs,rfl,_⟩:=h;rfl
 obtain ⟨Ms,es,k,m,sl,kd,ev,n,most,kvs,rfl,hk,hm,no,q⟩:=h;have r40:c5 40 _:=hr;refine ⟨_,aj (bC (i:=3) zI.nd rfl (Or.inl rfl) uA) (aj (Lr (fun C σ G=>C=CN/\n∉p6 kvs/\G=H/\σ=[some (.ref k),some (.int n),some (.int most),some .non,none]) (fun pins=>ay (bC (i:=3) zI.nd rfl (Or.inl rfl) (Hq (pv 0) T.cl MG.m GG r40 MG.b uR (bE (pv 1) (bE (pv 2) ai))))) (E6 4 (by rfl) mE zI.nd rfl rfl (fun ea=>ay (bC (i:=3) zI.nd rfl (Or.inl rfl) (pv 4))) Bh)) (ay (bM (pv 3)))),?_⟩;obtain ⟨dx,ob⟩:=hk.ob;refine cm (cW (bN ?_));dsimp only;refine cm ⟨?_,?_⟩
 ·refine cW ⟨_,rfl,k,dx,_,rfl,ob,xj _ _ _ _ (by decide +kernel),_,rfl,_,rfl,Ms,es,k,m,sl,kd,ev,n,most,kvs,rfl,hk,hm,fun nin=>⟨CN,rfl,rfl,nin,rfl,rfl⟩,fun G t rl en rvs nn i r e a1 a2 a3 a4 a5 a6 a7 a8 a9 a10=>bN ?_⟩;dsimp only;exact fb ⟨_,rfl,q G t rl en rvs nn i r e a1 a2 a3 a4 a5 a6 a7 a8 a9 a10⟩
 ·rintro C σ' H' _ ⟨rfl,nin,rfl,rfl⟩;refine .inl ⟨xE,fun ea hea=>cW ⟨_,rfl,bN ?_⟩⟩;dsimp only [E5];exact fb ⟨_,rfl,no nin ea hea⟩
abbrev nNk:List Str:=["_law_told"]
abbrev pNk:List Str:=["_law_told"]
theorem scNk:bK nNk pNk (aL jD):={}
def spNk (CN:aa):Sp:=fun vs H Q _=>∃ a:aa,vs=[.ref a]/\H a=some (XO a CN)/\∀ G,bf H G->Q (.bl true) G
structure NkT (K:af) (mg:Str->Option ae) (CN CF CMd CR CTx CL:aa):Prop where
 mN:mg "NoMark"=some (.ref CN)
 mF:mg "Fault"=some (.ref CF)
 mM:mg "NoModel"=some (.ref CMd)
 mR:mg "NoRoom"=some (.ref CR)
 mT:mg "NoText"=some (.ref CTx)
 mL:mg "TooLate"=some (.ref CL)
 mV:mg "ValueError"=none
 x:mX K CN
 k1:dP K (.ref CN) (.ref CN)=some true
 k2:dP K (.ref CN) (.type "ValueError")=some true
 k3:vE K (.ref CN) [.ref CF,.ref CMd,.ref CR,.ref CTx,.ref CL]=some false
theorem ok_nk {CF CMd CR CTx CL:aa} (D:Df K mg "_law_no_mark" jD pNk f fd) (N:NkT K mg CN CF CMd CR CTx CL) (B:Bl mg):bA P w K mg base CX0 1 f fd pNk (spNk CN):=by
 have MV:=N.mV;refine D.F.ok scNk (fun vs H Q E h=>?_) (fun cdv A outer s H vs Q E hr h=>?_)
 ·obtain ⟨a,rfl,_⟩:=h;rfl
 obtain ⟨a,rfl,ha,q⟩:=h;refine ⟨_,aj (cS ((A2 (rF (mB (cL qR (by rfl) B.isi jO (bE (pv 0) (bE (pE (v:=.ref CN) (by rfl) N.mN rfl) ai))))) (xn (rF (mB (cL qR (by rfl) B.isi jO (bE (pv 0) (bE (pF (v:=.ty "ValueError") (by rfl) MV Dy rfl) ai))))))).pt) (ay (bM oz)) bY)
  (ay (bM (K4 (cL wg (by rfl) B.isi jO (bE (pv 0) (vA (dR (bE (pE (v:=.ref CF) (by rfl) N.mF rfl) (bE (pE (v:=.ref CMd) (by rfl) N.mM rfl) (bE (pE (v:=.ref CR) (by rfl) N.mR rfl) (bE (pE (v:=.ref CTx) (by rfl) N.mT rfl) (bE (pE (v:=.ref CL) (by rfl) N.mL rfl) ai)))))) ai)))))),?_⟩
 refine cm (hV ⟨_,rfl,a,CN,_,_,_,rfl,(rfl:RelV (.ref CN) (Value.ref CN)),(fun u z=>z),ha,N.x,N.k1,_,rfl,?_⟩);refine fZ ?_;refine ⟨_,rfl,a,CN,_,_,_,rfl,(rfl:RelV (.ty "ValueError") (Value.type "ValueError")),(fun u z=>z),ha,N.x,N.k2,_,rfl,fZ ?_⟩;dsimp only [oB];refine fb ⟨_,rfl,by show 5<=aB; decide,fun tp htp=>?_⟩;have st:=aF htp (.tup [.ref CF,.ref CMd,.ref CR,.ref CTx,.ref CL]);refine ⟨a,CN,tp,[CF,CMd,CR,CTx,CL],false,rfl,ah,st _ _ ha,N.x,N.k3,?_⟩;exact ⟨_,rfl,q _ st⟩
end
theorem uw {H:Hp} {n:Nat} {p q:aa} {xs:List V} (hp:H p=some (.tup xs)) (hq:H q=some (.tup xs)) (sc:∀ x∈xs,sc0 x):TEq H (n + 1) (.ref p) (.ref q):=
 .inr (.inr ⟨p,q,xs,xs,rfl,rfl,hp,hq,by
  clear hp hq
  induction xs with
  | nil=>exact .nil
  | cons x xs ih =>
   refine .cons ?_ (ih fun y hy=>sc y (ag _ hy))
   cases n with
   | zero=>exact ⟨sc x ax,rfl⟩
   | succ n=>exact .inl ⟨sc x ax,rfl⟩⟩)
theorem vF {H:Hp} {n:Nat} {α:Type} {R S:V->α->Prop} (f:∀ x y a,R x a->S y a->TEq H n x y):∀ {xs ys:List V} {as:List α},aP R xs as->aP S ys as->aP (TEq H n) xs ys:=by
 intro xs ys as p
 induction p generalizing ys with
 | nil =>
  intro q
  cases q;exact .nil
 | cons a b ih =>
  intro q
  cases q with
  | cons c d=>exact .cons (f _ _ _ a c) (ih d)
theorem JE {H:Hp} {n:Nat} {xs ys xs' ys':List V} (a:aP (TEq H n) xs ys) (b:aP (TEq H n) xs' ys'):aP (TEq H n) (xs++xs') (ys++ys'):=by
 induction a with
 | nil=>exact b
 | cons h _ ih=>exact .cons h ih
theorem jy {H:Hp} {n:Nat} {x:V} (h:sc0 x):TEq H n x x:=by
 cases n with
 | zero=>exact ⟨h,rfl⟩
 | succ n=>exact .inl ⟨h,rfl⟩
theorem ux {H:Hp} {n:Nat} {a b:aa} {h:Ev} (ha:H a=some (AQ h)) (hb:H b=some (AQ h)):TEq H (n + 1) (.ref a) (.ref b):=
 uw ha hb fun x hx=>by
  simp only [au,aS,or_false] at hx
  rcases hx with rfl | rfl | rfl | rfl <;> trivial
theorem MZ {H:Hp} {n:Nat} {v v':V} {e:Ev} (h:gQ H v e) (h':gQ H v' e):TEq H (n + 2) v v':=by
 obtain ⟨t,k,rfl,h1,h2⟩:=h;obtain ⟨t',k',rfl,h1',h2'⟩:=h';exact .inr (.inr ⟨t,t',_,_,rfl,rfl,h1,h1',.cons (ux h2 h2') (.cons (jy trivial) (.cons (jy trivial) (.cons (jy trivial) (.cons (jy trivial) .nil))))⟩)
theorem zJ {H:Hp} {n:Nat} {a b:aa} {ns:List Int} (ha:H a=some (.lst (ns.map V.int))) (hb:H b=some (.lst (ns.map V.int))):TEq H (n + 1) (.ref a) (.ref b):=
 .inr (.inl ⟨a,b,_,_,rfl,rfl,ha,hb,by
  clear ha hb
  induction ns with
  | nil=>exact .nil
  | cons x xs ih=>exact .cons (jy trivial) ih⟩)
theorem Hr {H:Hp} {n:Nat}:∀ {qs:List (Str×List Int)} {qa qa':List (Str×aa)} {ws ws':List V},gc H qa qs->gc H qa' qs->aP (zu H) ws qa->aP (zu H) ws' qa'->aP (TEq H (n + 2)) ws ws'
 | [],qa,qa',ws,ws',e,g,a,c=>by
  cases e
  cases g
  cases a
  cases c;exact .nil
 | q :: qs,qa,qa',ws,ws',e,g,a,c=>by
  cases e with
  | cons e f =>
  cases g with
  | cons g h =>
  cases a with
  | cons a b =>
  cases c with
  | cons c d =>
  obtain ⟨t,rfl,h1⟩:=a;obtain ⟨t',rfl,h1'⟩:=c;obtain ⟨e1,e2⟩:=e;obtain ⟨g1,g2⟩:=g;rw [e1] at h1;rw [g1] at h1';exact .cons (.inr (.inr ⟨t,t',_,_,rfl,rfl,h1,h1',.cons (jy trivial) (.cons (zJ e2 g2) .nil)⟩)) (Hr f h b d)
theorem JF {H:Hp} {n:Nat} {v v':V} {q:Rec} (h:RcIn H v q) (h':RcIn H v' q):TEq H (n + 4) v v':=by
 obtain ⟨rc,k,wl,od,ws1,ws2,vs,qa,rfl,h1,h2,h3,h4,h5,h6,h7,h8⟩:=h;obtain ⟨rc',k',wl',od',ws1',ws2',vs',qa',rfl,h1',h2',h3',h4',h5',h6',h7',h8'⟩:=h';have w1:aP (TEq H (n + 2)) ws1 ws1':=vF (R:=yc H) (S:=yc H) (fun x y a hx hy=>by
  obtain ⟨t,rfl,z⟩:=hx;obtain ⟨t',rfl,z'⟩:=hy;exact uw z z' fun x hx=>by
   simp only [au,aS,or_false] at hx
   rcases hx with rfl | rfl <;> trivial) h4 h4'
 have w2:aP (TEq H (n + 2)) ws2 ws2':=Hr h6 h6' h5 h5';refine .inr (.inr ⟨rc,rc',_,_,rfl,rfl,h1,h1',.cons (ux h2 h2') (.cons (jy trivial) (.cons (jy trivial) (.cons (jy trivial) (.cons (jy trivial) (.cons ?_ (.cons ?_ .nil))))))⟩)
 ·exact .inr (.inl ⟨wl,wl',_,_,rfl,rfl,h3,h3',JE w1 w2⟩)
 ·exact .inr (.inl ⟨od,od',_,_,rfl,rfl,h7,h7',vF (R:=gQ H) (S:=gQ H) (fun x y a hx hy=>MZ hx hy) h8 h8'⟩)
theorem Hs {H:Hp} {a b:aa} {xs ys:List V} {rs:List Rec} (ha:H a=some (.lst xs)) (hb:H b=some (.lst ys)) (px:aP (RcIn H) xs rs) (py:aP (RcIn H) ys rs):TEq H 5 (.ref a) (.ref b):=
 .inr (.inl ⟨a,b,xs,ys,rfl,rfl,ha,hb,vF (R:=RcIn H) (S:=RcIn H) (fun x y q hx hy=>JF hx hy) px py⟩)
theorem zK {α β:Type} {R:α->β->Prop}:∀ {xs:List α} {ys:List β} (n:Nat),aP R xs ys->aP R (xs.take n) (ys.take n)
 | _,_,0,_=>.nil
 | _,_,_ + 1,.nil=>.nil
 | _,_,n + 1,.cons a b=>.cons a (zK n b)
theorem JG {H:Hp} {n:Nat} {v v':V}:∀ {e:End},pz H v e->pz H v' e->TEq H (n + 3) v v'
 | .empty,⟨t,e1,h1⟩,⟨t',e2,h2⟩=>by
  subst e1 e2;exact uw h1 h2 fun x hx=>by
   rw [aD.mp hx];exact trivial
 | .cut,⟨t,e1,h1⟩,⟨t',e2,h2⟩=>by
  subst e1 e2;exact uw h1 h2 fun x hx=>by
   rw [aD.mp hx];exact trivial
 | .stp (.fin _),⟨t,k,e1,h1,g1⟩,⟨t',k',e2,h2,g2⟩=>by
  subst e1 e2;exact .inr (.inr ⟨t,t',_,_,rfl,rfl,h1,h2,.cons (jy trivial) (.cons (ux g1 g2) .nil)⟩)
 | .stp (.flt _ _),⟨t,k,e1,h1,g1⟩,⟨t',k',e2,h2,g2⟩=>by
  subst e1 e2;exact .inr (.inr ⟨t,t',_,_,rfl,rfl,h1,h2,.cons (jy trivial) (.cons (jy trivial) (.cons (ux g1 g2) .nil))⟩)
theorem zL {H:Hp} {t t' rl rl':aa} {en en':V} {xs ys:List V} {rs:List Rec} {e:End} (h1:H t=some (.tup [.ref rl,en])) (h2:H t'=some (.tup [.ref rl',en'])) (g1:H rl=some (.lst xs)) (g2:H rl'=some (.lst ys)) (p1:aP (RcIn H) xs rs) (p2:aP (RcIn H) ys rs) (e1:pz H en e) (e2:pz H en' e):TEq H 6 (.ref t) (.ref t'):=
 .inr (.inr ⟨t,t',_,_,rfl,rfl,h1,h2,.cons (Hs g1 g2 p1 p2) (.cons (JG (n:=2) e1 e2) .nil)⟩)
theorem B7 {n:Int} {ns:List Int}:inV (.int n) (ns.map V.int)=decide (n∈ns):=by
 unfold inV;rw [List.any_map]
 induction ns with
 | nil=>rfl
 | cons a ns ih =>
  rw [jU,ih];show (eqV (.int a) (.int n) || _)=_
  by_cases c:a=n
  ·subst c;simp [eqV]
  ·have c':¬ n=a:=fun z=>c z.symm;simp [eqV,c,c']
theorem xk (ns:List Int):(ns.map V.int).all qN=true:=by
 rw [List.all_map];exact List.all_eq_true.mpr fun x _=>rfl
theorem sorted_ints {l₁ l₂:List Int} (h1:l₁.Pairwise (·<=·)) (h2:l₂.Pairwise (·<=·)) (h:l₁.Perm l₂):l₁=l₂:=List.Perm.eq_of_pairwise (fun _ _ _ _ a b=>Int.le_antisymm a b) h1 h2 h
theorem pA.uniq {Ms:List MD} {r:RS} {most:Int} {i i':Nat} {e e':End} (a:pA Ms r most i e) (b:pA Ms r most i' e'):i=i'/\e=e':=by
 have ei:i=i':=by
  rcases Nat.lt_trichotomy i i' with z | z | z
  ·have:=(b.1 i z).2;rw [a.2.1] at this
   cases this
  ·exact z
  ·have:=(a.1 i' z).2;rw [b.2.1] at this
   cases this
 subst ei;have:=a.2.1.symm.trans b.2.1
 cases this;exact ⟨rfl,rfl⟩
theorem Dz {xs:List V} {k:Nat} (h:k<=xs.length):lC xs (some (k:Int)) none=xs.drop k:=by
 unfold lC;rw [HT.sIx_nat,HT.sIx_none,Nat.min_eq_left h,zU (by rw [nU]; exact aC _)]
theorem B8 {α β:Type} {F:α->β->Prop}:∀ {xs:List α} {ys:List β} (k:Nat),aP F xs ys->aP F (xs.drop k) (ys.drop k)
 | _,_,0,h=>h
 | _,_,_ + 1,.nil=>.nil
 | _,_,k + 1,.cons h r=>B8 k r
theorem M0 {G G':Hp} {p:aa} (pu:dy G p):bf (Hid ⟨[],G⟩ G') (Wp p G'):=fun a o e=>by
 refine gI (eA _ _ e) fun z=>?_;subst z;obtain ⟨x,y,h⟩:=pu;exact gR e (.inr ⟨_,h,fun xs z=>by cases z⟩)
section
variable {P:aJ} {w:bJ} {K:af} {mg:Str->Option ae} {base:cu} {f fP fD fMs fSs fMI fKi fKr fKt fKm fAk fNk fPl CK CC CM CS CB CN:aa} {fd fdP fdD fdMs fdSs fdMI fdKi fdKr fdKt fdKm fdAk fdNk fdPl:bR}
seal PS PSs PE PA PT PW PI PG PGs PC
abbrev nL:List Str:=["_law_script","_law_purse_here","_law_machines_here","_law_signs_here","_law_model","_law_every","_law_keeper","_law_count","_law_marks","_law_number","_law_most","_law_told","_law_due"]
abbrev pL:List Str:=["_law_script"]
theorem scL:bK nL pL (aL Fk):={}
inductive Ht (K:af) (vs:List V) (H:Hp) (Q:VK) (_e:XK):Prop where
 | mk (a:aa) (ns:List Int) (_:vs=[.ref a]) (_:SqL K H a (ns.map V.int)) (_:ns.length<=63) (_:(∀ x∈ns,eP x<=1048576)) (_:∀ H',Q (.bl true) H'):Ht K vs H Q _e
def B9 (K:af):Sp:=fun vs H Q _e=>Ht K vs H Q _e
theorem M3 (D:Df K mg "law" Fk pL f fd) (DP:Df K mg "_law_purse" kU ["_law_script"] fP fdP) (GP:bA P w K mg base CX0 2 fP fdP ["_law_script"] (BY K)) (DD:Df K mg "_law_draw" eg pD fD fdD) (DMs:Df K mg "_law_machines" gN pMs fMs fdMs) (GMs:bA P w K mg base CX0 14 fMs fdMs pMs spMs) (DSs:Df K mg "_law_signs" jN pSs fSs fdSs) (GSs:bA P w K mg base CX0 4 fSs fdSs pSs spSs)
  (MM_:Mk K CM fMI) (GMI:bA P w K mg base CX0 31 fMI fdMI ["self","machines"] (LK CM 29)) (bMI:Binds K fdMI ["self","machines"] [])
  (MKe:Mk K CK fKi) (GKi:bA P w K mg base CX0 33 fKi fdKi pKi (spKi CK CM)) (bKi:Binds K fdKi pKi []) (MR:Mt K CK "run" "Keeper.run" je pKr fKr fdKr) (GKr:bA P w K mg base CX0 40 fKr fdKr pKr (spKr CK CC CM CS CB)) (MCt:Mt K CK "cut" "Keeper.cut" jf pKt fKt fdKt) (MMk:Mt K CK "marks" "Keeper.marks" ie pKm fKm fdKm) (MS:mg "sorted"=none)
  (DAk:Df K mg "_law_asked" kW ["_law_keeper","_law_number","_law_most"] fAk fdAk) (GAk:bA P w K mg base CX0 41 fAk fdAk ["_law_keeper","_law_number","_law_most"] (spAk CK CC CM CS CN)) (DNk:Df K mg "_law_no_mark" jD pNk fNk fdNk) (GNk:bA P w K mg base CX0 1 fNk fdNk pNk (spNk CN))
  (DPl:Df K mg "plain" uj ["model","signs","most"] fPl fdPl) (GPl:bA P w K mg base CX0 40 fPl fdPl ["model","signs","most"] (GJ CM CS CB)) (TM:MdT K mg CM CS) (TK:KeT K mg CK) (TB:BkT K mg CB) (B:Bl mg):bA P w K mg base CX0 42 f fd pL (B9 K):=by
 have GD:bA P w K mg base CX0 1 fD fdD pD jx:=jF DD;have GKt:bA P w K mg base CX0 1 fKt fdKt pKt (spKt CK CC CS):=ok_kt MCt.F TK;have GKm:bA P w K mg base CX0 1 fKm fdKm pKm (spKm CK):=ok_km MMk.F TK MS;refine D.F.ok scL (fun vs H Q E h=>?_) (fun cdv A outer s H vs Q E hr h=>?_)
 ·obtain ⟨a,ns,rfl,_⟩:=h;rfl
 obtain ⟨sa,ns,rfl,hsa,hns,hbt,fin⟩:=h;have h50:=Iu hr;have r1:c5 1 _:=hr.mono (by decide);have r2:c5 2 _:=hr.mono (by decide);have r4:c5 4 _:=hr.mono (by decide);have r14:c5 14 _:=hr.mono (by decide);have r32:c5 32 _:=hr.mono (by decide);have r34:c5 34 _:=hr.mono (by decide);have r40:c5 40 _:=hr.mono (by decide);have r41:c5 41 _:=hr;refine ⟨_,aj (bC (i:=1) scL.nd rfl (Or.inl rfl) (aK GP r2 (by rfl) DP.m DP.F.kp DP.b .nil bj (bE (pv 0) ai)))
  (aj (bC (i:=2) scL.nd rfl (Or.inl rfl) (aK GMs r14 (by rfl) DMs.m DMs.F.kp DMs.b .nil bj (bE (pv 1) ai)))
  (aj (bC (i:=3) scL.nd rfl (Or.inl rfl) (aK GSs r4 (by rfl) DSs.m DSs.F.kp DSs.b .nil bj (bE (pv 1) (iN (cL (fg K (by rfl)) (by rfl) B.len cA (bE (pv 2) ai)) ai))))
  (aj (bC (i:=4) scL.nd rfl (Or.inl rfl) (jA MM_ GMI r32 (by rfl) TM.mM bMI .nil bj (bE (pv 2) ai)))
  (aj (bC (i:=5) scL.nd rfl (Or.inl rfl) (cT gK aw (aK GD r1 (by rfl) DD.m DD.F.kp DD.b .nil bj (bE (pv 1) (dC aw ai)))))
  (aj (bC (i:=6) scL.nd rfl (Or.inl rfl) (jA MKe GKi r34 (by rfl) TK.m bKi .nil bj (bE (pv 4) (bE (pv 3) (bE (pv 5) ai)))))
  (aj (bC (i:=7) scL.nd rfl (Or.inl rfl) (cL (fg K (by rfl)) (by rfl) B.len cA (ao (eC K (by rfl) (fJ (pv 6) TK.cl MR.m GKr r40 MR.b .nil bj (iN (aK GD r1 (by rfl) DD.m DD.F.kp DD.b .nil bj (bE (pv 1) (dC aw ai))) ai)) (by rfl)) ai)))
  (aj (eI (fJ (pv 6) TK.cl MCt.m GKt r1 MCt.b .nil bj (qC (bU dI (eS (dC aw (iN (aK GD r1 (by rfl) DD.m DD.F.kp DD.b .nil bj (bE (pv 1) (dC aw ai))) ai))) (aK GD r1 (by rfl) DD.m DD.F.kp DD.b .nil bj (bE (pv 1) (dC aw ai))) (fun _ _=>rfl)) ai)))
  (aj (bC (i:=8) scL.nd rfl (Or.inl rfl) (iK (pv 6) TK.cl MMk.m GKm r1 MMk.b .nil bj))
  (aj (i5 cR rfl (iU (by rfl) B.range (rg (cT gK (pv 7) aw) ai)) (dQ (i:=9) scL.nd rfl (Or.inl rfl)) (aj (bC (i:=10) scL.nd rfl (Or.inl rfl) (aK GD r1 (by rfl) DD.m DD.F.kp DD.b .nil bj (bE (pv 1) (dC aw ai))))
  (aj (bC (i:=11) scL.nd rfl (Or.inl rfl) (aK GAk r41 (by rfl) DAk.m DAk.F.kp DAk.b .nil bj (bE (pv 6) (bE (pv 9) (bE (pv 10) ai)))))
  (ay (cS (bP xB (pv 9) (pv 8) (by rfl)) (ay (cS (rF (mB (aK GNk r1 (by rfl) DNk.m DNk.F.kp DNk.b .nil bj (bE (pv 11) ai)))) (ay (bM oz)) bY)) (aj (bC (i:=12) scL.nd rfl (Or.inl rfl) (aK GPl r40 (by rfl) DPl.m DPl.F.kp DPl.b .nil bj (bE (pv 4) (bE (pv 3) (rg (cT gK (pv 9) (pv 10)) ai)))))
  (aj (cS ((A2 (rF (mB (cL jL (by rfl) B.isi jO (bE (pv 11) (bE (pF (v:=.ty "tuple") (by rfl) B.tuple boot_tuple rfl) ai))))) (xn (bP (E2 h50) (pv 11) (dR (qC (qL tW (eC K (by rfl) (pv 12) (by rfl)) (tV (pv 9)) tU) (ao (eC K (by rfl) (pv 12) (by rfl)) ai))) (cb _)))).pt) (ay (bM oz)) bY)
  (aj (eI (lQ bZ cP cQ gY (bU cz (pv 11) aw (fun _ _=>rfl)) (dC aw ai)))
  (ay (cS (bP (E2 h50) (aK GAk r41 (by rfl) DAk.m DAk.F.kp DAk.b .nil bj (bE (pv 6) (bE (pv 9) (bE (pv 10) ai)))) (dR (qC (qL tW (eC K (by rfl) (pv 12) (by rfl)) (tV (pv 9)) tU) (ao (eC K (by rfl) (pv 12) (by rfl)) ai))) (cb _)) (ay (bM oz)) bY))))))))))
  (ay (bM (qJ (Lw h50) (iK (pv 6) TK.cl MMk.m GKm r1 MMk.b .nil bj) (pv 8) (cb _))))))))))))),?_⟩
 have big:=dY
 -- the purse, the machines, the signs
 refine cm (cW ⟨_,rfl,sa,ns,rfl,hsa,hns,hbt,fun p H1 np pu1 s1=>bN ?_⟩);dsimp only;refine cm (cW ⟨_,rfl,p,rfl,pu1,fun ml xs Ms H2 hml hMs m0 m6 nml pu2 b2=>bN ?_⟩);dsimp only;have lx:=aZ hMs;refine cm (cW ⟨_,rfl,_,rfl,ml,_,rfl,.inl (SqL.of hml),p,Ms.length,(by show [V.ref p,V.int (xs.length:Int)]=_; rw [lx]),pu2,m0,by omega,fun ol svs es H3 hol hsv les hes nol pu3 b3=>bN ?_⟩);dsimp only;have hml3:=b3 _ _ hml nml;have hMs3:=Paired.mono (fun v M z=>MIn.but pu1 pu2 b3 z) hMs;clear hMs hml b2 pu2 b3 s1
 -- the aX
 refine cm (cW (qz ⟨_,rfl,fun m dxm hm hdx ndx=>?_⟩));have sA:bf H3 (upd (upd H3 dxm (.own m)) m (.ins CM dxm [])):=fun b o e=>by
  rw [aH (av e hm),aH (av e hdx)];exact e
 have hMs4:aP (MIn Ms.length H1 (upd (upd H3 dxm (.own m)) m (.ins CM dxm []))) xs Ms:=Paired.mono (fun v M z=>by
  obtain ⟨t,e,y⟩:=z;exact ⟨t,e,y.same sA⟩) hMs3
 refine ⟨m,dxm,.ref ml,rfl,ah,B3 (sA _ _ hml3) hMs4 (by omega),fun v' G5 s5 al=>⟨rfl,bN ?_⟩⟩;obtain ⟨ml',rfl,hMo⟩:=Jq (sA _ _ hml3) hMs4 al;have hTr:=Alike.tree (B3 (sA _ _ hml3) hMs4 (by omega)) al;have s45:bf H3 (upd G5 m (.ins CM dxm (cD "machines" (.ref ml') []))):=qY (sA.trans s5) hm _;dsimp only
 -- how often a mark is kept
 refine cm (cW ⟨_,rfl,p,9,rfl,pu3.same s45,by decide,by decide,fun ev G6 ev0 ev9 pu6 b6=>⟨_,_,rfl,rfl,bN ?_⟩⟩);have pn:H3 p≠none:=fun z=>by
  obtain ⟨x,y,e⟩:=pu3;rw [z] at e
  cases e
 have M6:MoT CM Ms (Wp p G6) m:=(mo_h hm ndx pn hMo hTr b6).same (M0 pu3);have R6:Rn CM Ms es (Wp p G6) m ol:=⟨M6.at,by omega,⟨svs,gI (b6 _ _ (s45 _ _ hol) nol) nol,Paired.mono (fun v e z=>by
  obtain ⟨t',e',h⟩:=z.same s45;have h':=dN.but (pu3.same s45) b6 _ _ h (lK _);refine ⟨t',e',gI h' fun z=>?_⟩;obtain ⟨x,y,h2⟩:=pu6;rw [z,h2] at h'
  cases h') hsv⟩,les,hes⟩
 clear hMo hTr al s5 hMs4 sA hm hdx ndx hMs3 hml3 s45 b6 hol hsv pn;dsimp only
 -- the keeper
 refine cm (cW (qz ⟨_,rfl,_,rfl,_,rfl,fun k dxk hk hdx ndx=>?_⟩));have sK:bf G6 (upd (upd G6 dxk (.own k)) k (.ins CK dxk [])):=fun b o e=>by
  rw [aH (av e hk),aH (av e hdx)];exact e
 have puK:=pu6.same sK;have npk:p≠k:=fun z=>by
  obtain ⟨x,y,e⟩:=pu6;rw [z,hk] at e
  cases e
 have nk:(upd (upd G6 dxk (.own k)) k (.ins CK dxk [])) k=some (.ins CK dxk []):=ah;revert sK puK nk;generalize upd (upd G6 dxk (.own k)) k (.ins CK dxk [])=H6;intro sK puK nk;refine ⟨Ms,es,k,dxk,m,ol,1 + ev,rfl,nk,(M6.same (pV _ _)).same sK,(R6.same (pV _ _)).same sK,by omega,by omega,fun G7 m' sl' v b7 qk7 R7=>⟨rfl,bN ?_⟩⟩;dsimp only;have pu7:dy G7 p:=by
  obtain ⟨x,y,e⟩:=puK;exact ⟨x,y,b7 _ _ e npk⟩
 have w67:bf (Wp p G6) (Wp p G7):=fun a o e=>by
  obtain ⟨n,h⟩:=qi e;exact gI (b7 _ _ (sK _ _ h) (av h hk)) n
 have ik:k∈(⟨[],H6⟩:Ex):=.inr ⟨_,nk,fun xs z=>by cases z⟩;have ip:p∈(⟨[],H6⟩:Ex):=by
  obtain ⟨x,y,e⟩:=puK;exact .inr ⟨_,e,fun xs z=>by cases z⟩
 -- its run
 refine cm (cW ⟨_,rfl,k,dxk,_,rfl,qk7,xj _ _ _ _ (by decide +kernel),_,rfl,p,20,rfl,pu7,by decide,by decide,fun mst G8 ms0 ms20 pu8 b8=>?_⟩);have w78:∀ {a:aa} {o:HO},Hid ⟨[],H6⟩ G7 a=some o->a≠k/\a≠p/\G8 a=some o:=fun {a o} e=>by
  have na:=gR e;have n1:∀ {b:aa},b∈(⟨[],H6⟩:Ex)->a≠b:=fun hb z=>na (by rw [z]; exact hb);exact ⟨n1 ik,n1 ip,b8 _ _ (eA _ _ e) (n1 ip)⟩
 have qk8:=b8 _ _ qk7 npk.symm;refine zz ?_;refine ⟨Ms,es,k,dxk,m',sl',v,1 + ev,mst,rfl,qk8,R7.same (fun a o e=>gI (w78 e).2.2 (w78 e).1),by omega,by omega,by omega,by omega,fun G9 b dxb rl kd en sv rvs kvs b9 qb qr lr qk9 qkd kp=>?_⟩;refine ⟨b,CB,dxb,_,_,rfl,qb,TB.cl,TB.nR,Mf _ _ _,rl,rvs,rfl,.inl (SqL.of qr),bN ?_⟩;dsimp only;have pu9:dy G9 p:=by
  obtain ⟨x,y,e⟩:=pu8;exact ⟨x,y,b9 _ _ e npk⟩
 have ik8:k∈(⟨[],G8⟩:Ex):=.inr ⟨_,qk8,fun xs z=>by cases z⟩;have ip8:p∈(⟨[],G8⟩:Ex):=by
  obtain ⟨x,y,e⟩:=pu8;exact .inr ⟨_,e,fun xs z=>by cases z⟩
 -- what is kept behind a cut
 refine cm ⟨_,rfl,k,dxk,_,rfl,qk9,xj _ _ _ _ (by decide +kernel),_,rfl,p,20,rfl,pu9,by decide,by decide,fun x Ga x0 x20 pua ba=>⟨lt2,fun l0 hl0=>?_⟩⟩;have s0:=aF hl0 (.lst [.int 0,.int x]);refine ⟨_,rfl,p,2,rfl,pua.same s0,by decide,by decide,fun y Gb y0 y2 pub bb=>?_⟩;obtain ⟨num,hat⟩:∃ num:Int,atI [V.int 0,.int x] y=some (.int num):=by
  have cs:y=0\/y=1:=by omega
  rcases cs with rfl | rfl
  ·exact ⟨_,rfl⟩
  ·exact ⟨_,rfl⟩
 have b9b:But p G9 Gb:=(ba.same s0).trans bb;refine ⟨l0,_,_,_,rfl,rfl,SqL.of (bb _ _ ah (rh pua hl0)),hat,?_⟩;refine zz ?_;have w9b:∀ {a:aa} {o:HO},Hid ⟨[],G8⟩ G9 a=some o->a≠k/\a≠p/\Gb a=some o:=fun {a o} e=>by
  have na:=gR e;have n1:∀ {b:aa},b∈(⟨[],G8⟩:Ex)->a≠b:=fun hb z=>na (by rw [z]; exact hb);exact ⟨n1 ik8,n1 ip8,b9b _ _ (eA _ _ e) (n1 ip8)⟩
 refine ⟨Hid ⟨[],G8⟩ G9,Ms,es,m',k,kd,dxk,_,_,_,num,kvs,rfl,b9b _ _ qk9 npk.symm,gI (w9b qkd).2.2 (w9b qkd).1,kp,fun G10 kd' kvs' b10 qk10 qkd10 nkd kp'=>?_⟩;have pu10:dy G10 p:=by
  obtain ⟨x,y,e⟩:=pub;exact ⟨x,y,b10 _ _ e npk⟩
 have np10:kd'≠p:=fun z=>by
  obtain ⟨x,y,e⟩:=pub;rw [<- z,nkd] at e
  cases e
 have K10:AZ CK CC CM CS Ms es (Wp p G10) k m' sl' kd' (1 + ev) kvs':=⟨⟨dxk,gI qk10 npk.symm⟩,R7.same (fun a o e=>by
  obtain ⟨n1,n2,h⟩:=w78 e;exact gI (b10 _ _ (b9b _ _ (b9 _ _ h n1) n2) n1) n2),gI qkd10 np10,kp'.same (fun a o e=>by
  obtain ⟨n1,n2,h⟩:=w9b e;exact gI (b10 _ _ h n1) n2)⟩
 have R10:Rn CM Ms es (Wp p G10) m ol:=R6.same fun a o e=>by
  obtain ⟨n,h⟩:=qi e;have nk':=av h hk;exact gI (b10 _ _ (b9b _ _ (b9 _ _ (b8 _ _ (b7 _ _ (sK _ _ h) nk') n) nk') n) nk') n
 clear w9b w78 b10 b9b b9 b8 b7 sK nkd kp kp' qkd qk9 qb R7 R6 M6 w67 bb ba s0 hl0 pub pua pu9 pu8 pu7 puK pu6 pu3 ik ip ik8 ip8 qk8 qk7 hk hdx ndx nk qkd10 np10 hat;dsimp only
 -- the marks
 have keys:=K10.kk.keys;have lks:(p6 kvs').length < 64:=by
  unfold p6;rw [ar];have:=K10.kk.few;omega
 refine cm (cW ⟨_,rfl,k,dxk,_,rfl,qk10,xj _ _ _ _ (by decide +kernel),k,kd',dxk,_,_,_,kvs',p6 kvs',rfl,qk10,(qi K10.dk).2,keys,lks,fun l ns' hl pm srt=>bN ?_⟩);dsimp only;have sl:=aF hl (.lst (ns'.map V.int));have nlp:l≠p:=rh pu10 hl;have hl11:=gI (jj hl (.lst (ns'.map V.int))) nlp;have K11:=K10.same (uv sl);have R11:=R10.same (uv sl);have pu11:=pu10.same sl;revert hl11 K11 R11 pu11;generalize upd G10 l (.lst (ns'.map V.int))=G11;intro hl11 K11 R11 pu11;clear K10 R10 pu10 sl hl qk10;have mem:∀ {n:Int},n∈ns'↔n∈p6 kvs':=pm.mem_iff;refine cm ⟨_,rfl,_,_,rfl,rfl,(rvs.length:Int) + 3,rfl,by omega,by omega,?_⟩;refine pG (n:=rvs.length + 3) (fun i σ G=>∃ u9 u10 u11 u12:Option V,σ=[some (.ref sa),some (.ref p),some (.ref ml),some (.ref ol),some (.ref m),some (.int (1 + ev)),some (.ref k),some (.int rvs.length),some (.ref l),u9,u10,u11,u12]/\dy G p/\bf (Wp p G11) (Wp p G)) ⟨_,_,_,_,rfl,pu11,bf.refl _⟩ ?_ ?_
 ·rintro i σ G hi ⟨u9,u10,u11,u12,rfl,puG,sG⟩;refine bN ?_;dsimp only;refine cm (cW ⟨_,rfl,p,10,rfl,puG,by decide,by decide,fun mt Ga mt0 mt1 pua ba=>bN ?_⟩);dsimp only;have sGa:=sG.trans ba.wp;have Ka:=K11.same (sGa.trans (pV _ _));have Ra:=R11.same (sGa.trans (pV _ _));have hla:=(qi (sGa _ _ hl11)).2;have e0:(0:Int) + (i:Int)=(i:Int):=Int.zero_add _;rw [e0]
  by_cases c:(i:Int)∈p6 kvs'
  ·refine cm (cW ⟨_,rfl,_,rfl,_,rfl,Ms,es,k,m',sl',kd',1 + ev,i,mt,kvs',rfl,Ka,by omega,fun z=>absurd c z,fun Gt t rl1 en1 rv1 nn j r e _ en hM hS st ht hr nr pR hE=>bN ?_⟩);dsimp only;obtain rfl:nn=i:=by omega
   refine hV ⟨_,rfl,_,rfl,l,_,rfl,.inl (SqL.of (st _ _ hla)),rfl,xk _,_,rfl,?_⟩;rw [B7,decide_eq_true (mem.mpr c)];refine fZ ?_;have Rt:=Ra.same st;obtain ⟨svs',hs1,hs2⟩:=Rt.sg;refine cm (cW ⟨_,rfl,_,rfl,_,rfl,_,rfl,_,_,rfl,rfl,?_⟩);refine zz ?_;show GJ CM CS CB [V.ref m,V.ref ol,V.int ((nn:Int) + mt)] _ _ _;refine ⟨Ms,m,ol,svs',es,(nn:Int) + mt,rfl,Rt.mo,Rt.lm,hs1,hs2,Rt.le,Rt.ev,by omega,fun Gp b2 i2 e2 sp st2 bk=>bN ?_⟩;dsimp only;obtain ⟨St,dr⟩:=hM.on hS mt0;obtain ⟨rfl,rfl⟩:=st2.uniq St;obtain ⟨dxb2,rl3,sl3,en3,rv3,ss3,g1,g2,g3,g4,_⟩:=bk.ex;have l3:=aZ g3;have len3:nn<=rv3.length:=by
    rw [l3,uu];show nn<=((itR Ms (kN Ms es) nn).2++_).length;rw [aA,hM.l nn (aC _)];omega
   have ec:=Dz (xs:=rv3) (k:=nn) len3;have p3:=B8 nn g3;rw [dr] at p3;have ht2:=sp _ _ ht;have hr2:=sp _ _ hr;have few:=xi Rt.mo.ok hS mt0;have l1:=aZ pR;refine cm (hV ⟨_,rfl,_,"tuple",_,true,rfl,.tup ht2,rfl,_,rfl,?_⟩);refine fZ ?_;have hb2:=eA _ _ g1;have hl3:=eA _ _ g2;refine ⟨_,rfl,_,rfl,b2,CB,dxb2,_,_,rfl,hb2,TB.cl,TB.nR,Mf _ _ _,_,rfl,_,rfl,rl3,rv3,rfl,SqL.of hl3,fun l4 hl4=>?_⟩;have s4:=aF hl4 (.lst (lC rv3 (some (nn:Int)) none));refine ⟨_,rfl,b2,CB,dxb2,_,_,rfl,s4 _ _ hb2,TB.cl,TB.nE,bk_e _ _ _,lt2,fun t4 ht4=>?_⟩;have s5:=aF ht4 (.tup [.ref l4,en3]);have q4:=s5 _ _ (jj hl4 (.lst (lC rv3 (some (nn:Int)) none)));have q5:=jj ht4 (.tup [.ref l4,en3]);have sq:=s4.trans s5;revert q4 q5 sq;generalize upd (upd Gp l4 (.lst (lC rv3 (some (nn:Int)) none))) t4 (.tup [.ref l4,en3])=Gq;rw [ec];intro q4 q5 sq;have sH:=(eA (ex:=⟨[],Gt⟩) (G:=Gp)).trans sq;have stq:=sp.trans sq;refine ⟨6,by decide,zL (stq _ _ ht) q5 (stq _ _ hr) q4 (Paired.mono (fun _ _ z=>z.same stq) pR) (Paired.mono (fun _ _ z=>z.same sH) p3) (hE.same stq) (g4.same sH),_,rfl,fZ ?_⟩;dsimp only [oB]
   -- what was told is the asker's
   refine cm ⟨_,rfl,t,_,_,_,rfl,rfl,SqT.of (stq _ _ ht),rfl,.inl ⟨rfl,_,SqL.of (stq _ _ hr)⟩,rl1,rv1,.int 0,rfl,rfl,stq _ _ hr,by omega,?_⟩;have sX:bf Ga (upd Gq rl1 (.lst (rv1++[.int 0]))):=fun a o e=>aR ((st.trans stq) _ _ e) (av e nr);have sB:bf (Hid ⟨[],Gt⟩ Gp) (upd Gq rl1 (.lst (rv1++[.int 0]))):=fun a o e=>aR (sH _ _ e) fun z=>by
    subst z;exact gR e (.inr ⟨_,hr,fun xs z=>by cases z⟩)
   revert sX sB;generalize upd Gq rl1 (.lst (rv1++[.int 0]))=Gx;intro sX sB;dsimp only;clear q4 q5 sq s5 s4 ht4 hl4 stq sH;refine hV ⟨_,rfl,_,rfl,_,rfl,Ms,es,k,m',sl',kd',1 + ev,nn,mt,kvs',rfl,Ka.same sX,by omega,fun z=>absurd c z,fun Gy t5 rl5 en5 rv5 n5 j5 r5 e5 _ en' hM5 hS5 st5 ht5 hr5 nr5 pR5 hE5=>?_⟩;obtain rfl:n5=nn:=by omega
   have er:r5=r:=by rw [hM5.e,hM.e]
   subst er;obtain ⟨rfl,rfl⟩:=hS5.uniq hS;have sBy:=sB.trans st5;refine ⟨_,rfl,b2,CB,dxb2,_,_,rfl,sBy _ _ g1,TB.cl,TB.nR,Mf _ _ _,_,rfl,_,rfl,rl3,rv3,rfl,SqL.of (sBy _ _ g2),fun l6 hl6=>?_⟩;have s6:=aF hl6 (.lst (lC rv3 (some (n5:Int)) none));refine ⟨_,rfl,b2,CB,dxb2,_,_,rfl,s6 _ _ (sBy _ _ g1),TB.cl,TB.nE,bk_e _ _ _,lt2,fun t6 ht6=>?_⟩;have s7:=aF ht6 (.tup [.ref l6,en3]);have q6:=s7 _ _ (jj hl6 (.lst (lC rv3 (some (n5:Int)) none)));have q7:=jj ht6 (.tup [.ref l6,en3]);have sz:=s6.trans s7;revert q6 q7 sz;generalize upd (upd Gy l6 (.lst (lC rv3 (some (n5:Int)) none))) t6 (.tup [.ref l6,en3])=Gz;rw [ec];intro q6 q7 sz;have sBz:=sBy.trans sz;refine ⟨6,by decide,zL (sz _ _ ht5) q7 (sz _ _ hr5) q6 (Paired.mono (fun _ _ z=>z.same sz) pR5) (Paired.mono (fun _ _ z=>z.same sBz) p3) (hE5.same sz) (g4.same sBz),_,rfl,fZ ?_⟩;have sF:=(sX.trans st5).trans sz;exact ⟨_,_,_,_,rfl,pua.same sF,sGa.trans (uv sF)⟩
  ·refine cm (cW ⟨_,rfl,_,rfl,_,rfl,Ms,es,k,m',sl',kd',1 + ev,i,mt,kvs',rfl,Ka,by omega,fun _ ea hea=>bN ?_,fun Gt t rl1 en1 rv1 nn j r e z=>absurd z c⟩);dsimp only;have sE:=aF hea (XO ea CN);refine hV ⟨_,rfl,_,rfl,l,_,rfl,.inl (SqL.of (sE _ _ hla)),rfl,xk _,_,rfl,?_⟩;rw [B7,decide_eq_false (fun z=>c (mem.mp z))];refine iL ?_;refine hV ⟨_,rfl,ea,rfl,ah,fun Gn sN=>⟨_,rfl,?_⟩⟩;refine fZ ?_;exact ⟨_,_,_,_,rfl,(pua.same sE).same sN,sGa.trans (uv (sE.trans sN))⟩
 ·rintro σ G ⟨u9,u10,u11,u12,rfl,puG,sG⟩;dsimp only;have Kf:=K11.same (sG.trans (pV _ _));obtain ⟨dxf,qf⟩:=Kf.ob;refine fb ⟨_,rfl,k,dxf,_,rfl,qf,xj _ _ _ _ (by decide +kernel),k,kd',dxf,_,_,_,kvs',p6 kvs',rfl,qf,Kf.dk,keys,lks,fun l2 ns2 hl2 pm2 srt2=>?_⟩;have s2:=aF hl2 (.lst (ns2.map V.int));have e:=sorted_ints srt2 srt (pm2.trans pm.symm);subst e;exact ⟨_,rfl,1,by decide,zJ (n:=0) ah (s2 _ _ (qi (sG _ _ hl11)).2),fin _⟩
end
def nC (CN CG CU CY CP CL:aa):Flt->aa
 | .nought=>CN
 | .great=>CG
 | .full=>CU
 | .dry=>CY
 | .span=>CP
 | .late=>CL
end My
namespace My
theorem uy {P:Flt->Prop} (a:P .nought) (b:P .great) (c:P .full) (d:P .dry) (e:P .span) (f:P .late):∀ x,P x
 | .nought=>a
 | .great=>b
 | .full=>c
 | .dry=>d
 | .span=>e
 | .late=>f
end My
namespace My
open PySem L2
theorem rq {α:Type} {n:Nat} {us:List α} (h:us.length=n + 1):∃ a l,us=a :: l/\l.length=n:=by
 cases us with
 | nil=>cases h
 | cons a l=>exact ⟨a,l,rfl,HD h⟩
theorem yt {α:Type} {us:List α} (h:us.length=1):∃ a,us=[a]:=by
 obtain ⟨a,l,rfl,h⟩:=rq h
 cases l with
 | nil=>exact ⟨a,rfl⟩
 | cons b l=>cases h
theorem yu {α:Type} {us:List α} (h:us.length=2):∃ a b,us=[a,b]:=by
 obtain ⟨x,l,rfl,h'⟩:=rq h;obtain ⟨a1,rfl⟩:=yt h';exact ⟨x,a1,rfl⟩
theorem yv {α:Type} {us:List α} (h:us.length=3):∃ a b c,us=[a,b,c]:=by
 obtain ⟨x,l,rfl,h'⟩:=rq h;obtain ⟨a1,b1,rfl⟩:=yu h';exact ⟨x,a1,b1,rfl⟩
theorem yw {α:Type} {us:List α} (h:us.length=4):∃ a b c d,us=[a,b,c,d]:=by
 obtain ⟨x,l,rfl,h'⟩:=rq h;obtain ⟨a1,b1,c1,rfl⟩:=yv h';exact ⟨x,a1,b1,c1,rfl⟩
theorem Ca {α:Type} {us:List α} (h:us.length=5):∃ a b c d e,us=[a,b,c,d,e]:=by
 obtain ⟨x,l,rfl,h'⟩:=rq h;obtain ⟨a1,b1,c1,d1,rfl⟩:=yw h';exact ⟨x,a1,b1,c1,d1,rfl⟩
def Dn (K:af) (x:Str) (st:cV) (f:aa):Prop:=bL K aW x=some (some (.ref f))/\∃ fd,Fun K x x st f fd
def Mn (K:af) (C:aa) (x q:Str) (st:cV) (f:aa):Prop:=(aQ K (.ref C) x=some (some (.ref f))/\mI K (.ref f)=true)/\∃ fd,Fun K x q st f fd
structure Cn (K:af) (C:aa):Prop where
 c:Cls K C
 m:tI K C=true
 k:gi K (.ref C)=true
theorem dn_i {K:af} {x:Str} {st:cV} {f:aa} {oc:ae} {od an:Option aa} {sl:Array (Option ae)} {kV dc pm cd ct:ae} (a:bL K aW x=some (some (.ref f))) (l:K.lookup f=some ⟨oc,od,.func (eT x x (jY st) (iO st) (aL st) .none kV dc pm an cd ct),sl⟩) (c:jb K cd x=true) (k:gi K (.ref f)=true):Dn K x st f:=⟨a,_,EM l c k⟩
theorem mn_i {K:af} {x q:Str} {st:cV} {f C:aa} {oc:ae} {od an:Option aa} {sl:Array (Option ae)} {kV dc pm cd ct:ae} (a:aQ K (.ref C) x=some (some (.ref f))) (i:mI K (.ref f)=true) (l:K.lookup f=some ⟨oc,od,.func (eT x q (jY st) (iO st) (aL st) .none kV dc pm an cd ct),sl⟩) (c:jb K cd q=true) (k:gi K (.ref f)=true):Mn K C x q st f:=⟨⟨a,i⟩,_,EM l c k⟩
theorem dfx {K:af} {h:cu} {mg:Str->Option ae} {x:Str} {st:cV} {f:aa} (ps:List Str) (X:K.In h) (G:h.Ns aW mg) (a:Dn K x st f) (hb:∀ (kV doc pm:ae) (an:Option aa) (cdv ct:ae) (us:List ae),us.length=ps.length->Ac (eT x x (jY st) (iO st) (aL st) .none kV doc pm an cdv ct) ⟨us,[]⟩=pure (ps.zip us):=by intro _ _ _ _ _ _ us hl; first | (obtain ⟨a,rfl⟩:=yt hl; rfl) | (obtain ⟨a,b,rfl⟩:=yu hl; rfl) | (obtain ⟨a,b,c,rfl⟩:=yv hl; rfl) | (obtain ⟨a,b,c,d,rfl⟩:=yw hl; rfl) | (obtain ⟨a,b,c,d,e,rfl⟩:=Ca hl; rfl)):∃ fd,Df K mg x st ps f fd:=by
 obtain ⟨a,fd,F⟩:=a;exact ⟨fd,F,F.binds hb,cJ X G a⟩
theorem mfx {K:af} {x q:Str} {st:cV} {f C:aa} (ps:List Str) (a:Mn K C x q st f) (hb:∀ (kV doc pm:ae) (an:Option aa) (cdv ct:ae) (us:List ae),us.length=ps.length->Ac (eT x q (jY st) (iO st) (aL st) .none kV doc pm an cdv ct) ⟨us,[]⟩=pure (ps.zip us):=by intro _ _ _ _ _ _ us hl; first | (obtain ⟨a,rfl⟩:=yt hl; rfl) | (obtain ⟨a,b,rfl⟩:=yu hl; rfl) | (obtain ⟨a,b,c,rfl⟩:=yv hl; rfl) | (obtain ⟨a,b,c,d,rfl⟩:=yw hl; rfl) | (obtain ⟨a,b,c,d,e,rfl⟩:=Ca hl; rfl)):∃ fd,Fun K x q st f fd/\Binds K fd ps []/\vK K C x f:=by
 obtain ⟨⟨a,i⟩,fd,F⟩:=a;exact ⟨fd,F,F.binds hb,a,i,F.kp⟩
theorem law_b {K:af} {x q:Str} {st:cV} {f:aa} {fd:bR} {y:Str} (F:Fun K x q st f fd) (hb:∀ (kV doc pm:ae) (an:Option aa) (cdv ct v:ae),Ac (eT x q (jY st) (iO st) (aL st) .none kV doc pm an cdv ct) ⟨[v],[]⟩=pure [(y,v)]) (s:ak) (v:ae):sV s fd ⟨[v],[]⟩ [(y,v)]:=by
 obtain ⟨oc,od,kV,doc,pm,an,cdv,ct,osl,rfl,_⟩:=F.ex;exact .of_eq (hb kV doc pm an cdv ct v)
theorem all_mk {l:tM} {w:bJ} {K:af} {h:cu} {mg:Str->Option ae} {fa f1 f2 f3 f4 f5 f6 f7 f8 f9 f10 f11 f12 f13 f14 f15 f16 f17 f18 f19 f20 f21 f22 f23 f24 f25 f26 f27 f28 f29 f30 f31 f32 f33 f34 f35 f36 f37 f38 CM f39 CS f40 f41 CD f42 f43 f44 f45 f46 CB f47 CC f48 f49 f50 f51 CK f52 f53 f54 f55 f56 f57 CN CG CU CY CP CL CF CNm:aa} {f100 f101 f102 f103 f104 f105 CEr CTl CTx CRm CMd:aa} (X:K.In h) (G:h.Ns aW mg) (hfa:mg "law"=some (.ref fa))
  (a1:Dn K "worth_of" kg f1) (a2:Dn K "number_of_leaf" gb f2) (a3:Dn K "number_of_two" gv f3) (a4:Dn K "number_of_division" dU f4) (a5:Dn K "done" xW f5) (a6:Dn K "doing_of" m7 f6) (a7:Dn K "deeds_by_sign" gS f7) (a8:Dn K "writes_of" kS f8) (a9:Dn K "do_deeds" ic f9) (a10:Dn K "do_deed" lT f10) (a11:Dn K "do_push" lU f11) (a12:Dn K "do_pull" lV f12) (a13:Dn K "do_draw" lW f13) (a14:Dn K "do_send" lX f14) (a15:Dn K "copied" lS f15) (a16:Dn K "first_state" jC f16) (a17:Dn K "place_in" m8 f17) (a18:Dn K "put_in" qS f18) (a19:Dn K "pending_at_first" gj f19) (a20:Dn K "course_at_first" eV f20) (a21:Dn K "run_on" lY f21) (a22:Dn K "plain" uj f22) (a23:Dn K "_law_mixed" kT f23) (a24:Dn K "_law_purse" kU f24) (a25:Dn K "_law_draw" eg f25) (a26:Dn K "_law_worth" fi f26) (a27:Dn K "_law_formula" gD f27) (a28:Dn K "_law_deeds" iW f28) (a29:Dn K "_law_send" kj f29) (a30:Dn K "_law_deed" km f30) (a31:Dn K "_law_name" m9 f31) (a32:Dn K "_law_names" jM f32) (a33:Dn K "_law_machines" gN f33) (a34:Dn K "_law_sign" ng f34) (a35:Dn K "_law_signs" jN f35) (a36:Dn K "_law_asked" kW f36) (a37:Dn K "_law_no_mark" jD f37) (a38:Dn K "law" Fk f38) (aCM:bL K aW "Model"=some (some (.ref CM))) (a39:Mn K CM "__init__" "Model.__init__" mZ f39) (pCM:Cn K CM) (nCMmachines:aQ K (.ref CM) "machines"=some none) (aCS:bL K aW "State"=some (some (.ref CS))) (a40:Mn K CS "__init__" "State.__init__" jd f40) (a41:Mn K CS "copy" "State.copy" iy f41) (pCS:Cn K CS) (nCSboxes:aQ K (.ref CS) "boxes"=some none) (nCSqueues:aQ K (.ref CS) "queues"=some none) (nCSdrawn:aQ K (.ref CS) "drawn"=some none) (nCSsent:aQ K (.ref CS) "sent"=some none) (aCD:bL K aW "Doing"=some (some (.ref CD))) (a42:Mn K CD "__init__" "Doing.__init__" m5 f42) (a43:Mn K CD "now" "Doing.now" iV f43) (a44:Mn K CD "reckon" "Doing.reckon" eU f44) (a45:Mn K CD "queue_of" "Doing.queue_of" eK f45) (a46:Mn K CD "fill" "Doing.fill" gy f46) (pCD:Cn K CD) (nCDmachine:aQ K (.ref CD) "machine"=some none) (nCDhappening:aQ K (.ref CD) "happening"=some none) (nCDstate:aQ K (.ref CD) "state"=some none) (nCDwritten:aQ K (.ref CD) "written"=some none) (nCDoutgoing:aQ K (.ref CD) "outgoing"=some none) (nCDends:aQ K (.ref CD) "ends"=some none) (nCDreckoned:aQ K (.ref CD) "reckoned"=some none) (nCDqueued:aQ K (.ref CD) "queued"=some none) (aCB:bL K aW "Book"=some (some (.ref CB))) (a47:Mn K CB "__init__" "Book.__init__" o4 f47) (pCB:Cn K CB) (nCBrecords:aQ K (.ref CB) "records"=some none) (nCBending:aQ K (.ref CB) "ending"=some none) (nCBstates:aQ K (.ref CB) "states"=some none) (aCC:bL K aW "Course"=some (some (.ref CC))) (a48:Mn K CC "__init__" "Course.__init__" lG f48) (a49:Mn K CC "copy" "Course.copy" gC f49) (a50:Mn K CC "ending_due" "Course.ending_due" eY f50) (a51:Mn K CC "do_one" "Course.do_one" gT f51) (pCC:Cn K CC) (nCCmodel:aQ K (.ref CC) "model"=some none) (nCCstates:aQ K (.ref CC) "states"=some none) (nCCpending:aQ K (.ref CC) "pending"=some none) (nCCreached:aQ K (.ref CC) "reached"=some none) (nCCstopped:aQ K (.ref CC) "stopped"=some none) (aCK:bL K aW "Keeper"=some (some (.ref CK))) (a52:Mn K CK "__init__" "Keeper.__init__" lH f52) (a53:Mn K CK "run" "Keeper.run" je f53) (a54:Mn K CK "marks" "Keeper.marks" ie f54) (a55:Mn K CK "cut" "Keeper.cut" jf f55) (a56:Mn K CK "go_on" "Keeper.go_on" ig f56) (a57:Mn K CK "course_from" "Keeper.course_from" fh f57) (pCK:Cn K CK) (nCKmodel:aQ K (.ref CK) "model"=some none) (nCKsigns:aQ K (.ref CK) "signs"=some none) (nCKevery:aQ K (.ref CK) "every"=some none) (nCKkept:aQ K (.ref CK) "kept"=some none) (aCN:bL K aW "Nought"=some (some (.ref CN))) (xCN:cY K CN oQ "ValueError.__new__"=true) (aCG:bL K aW "Great"=some (some (.ref CG))) (xCG:cY K CG oQ "ValueError.__new__"=true) (aCU:bL K aW "Full"=some (some (.ref CU))) (xCU:cY K CU oQ "ValueError.__new__"=true) (aCY:bL K aW "Dry"=some (some (.ref CY))) (xCY:cY K CY oQ "ValueError.__new__"=true) (aCP:bL K aW "Span"=some (some (.ref CP))) (xCP:cY K CP oQ "ValueError.__new__"=true) (aCL:bL K aW "Late"=some (some (.ref CL))) (xCL:cY K CL oQ "ValueError.__new__"=true) (aCF:bL K aW "Fault"=some (some (.ref CF))) (xCF:cY K CF oQ "ValueError.__new__"=true) (aCNm:bL K aW "NoMark"=some (some (.ref CNm))) (xCNm:cY K CNm oQ "ValueError.__new__"=true) (enn:cN K (.ref CN) (.ref CN)=some true) (egn:cN K (.ref CG) (.ref CN)=some false) (egg:cN K (.ref CG) (.ref CG)=some true) (aCEr:bL K aW "MomentError"=some (some (.ref CEr))) (aCTl:bL K aW "TooLate"=some (some (.ref CTl))) (aCTx:bL K aW "NoText"=some (some (.ref CTx))) (aCRm:bL K aW "NoRoom"=some (some (.ref CRm))) (aCMd:bL K aW "NoModel"=some (some (.ref CMd))) (knm:dP K (.ref CNm) (.ref CNm)=some true) (knv:dP K (.ref CNm) (.type "ValueError")=some true) (kna:vE K (.ref CNm) [.ref CF,.ref CMd,.ref CRm,.ref CTx,.ref CTl]=some false) (xnm:cN K (.ref CNm) (.ref CEr)=some true) (XNm:mX K CNm) (xfCN:cN K (.ref CN) (.ref CF)=some true) (XN100:mX K CN) (a100:Mn K CN "word" "Nought.word" lF f100) (xfCG:cN K (.ref CG) (.ref CF)=some true) (XN101:mX K CG) (a101:Mn K CG "word" "Great.word" mY f101) (xfCU:cN K (.ref CU) (.ref CF)=some true) (XN102:mX K CU) (a102:Mn K CU "word" "Full.word" oX f102) (xfCY:cN K (.ref CY) (.ref CF)=some true) (XN103:mX K CY) (a103:Mn K CY "word" "Dry.word" qy f103) (xfCP:cN K (.ref CP) (.ref CF)=some true) (XN104:mX K CP) (a104:Mn K CP "word" "Span.word" oY f104) (xfCL:cN K (.ref CL) (.ref CF)=some true) (XN105:mX K CL) (a105:Mn K CL "word" "Late.word" oZ f105) (zlen:bL K aW "len"=some none) (zabs:bL K aW "abs"=some none) (zisinstance:bL K aW "isinstance"=some none) (zlist:bL K aW "list"=some none) (ztuple:bL K aW "tuple"=some none) (zstr:bL K aW "str"=some none) (zint:bL K aW "int"=some none) (zbool:bL K aW "bool"=some none) (zrange:bL K aW "range"=some none) (zmax:bL K aW "max"=some none) (zdict:bL K aW "dict"=some none) (zsorted:bL K aW "sorted"=some none) (zenumerate:bL K aW "enumerate"=some none) (zmin:bL K aW "min"=some none) (zValueError:bL K aW "ValueError"=some none) :
  ∃ fd:bR,(∀ (s:ak) (v:ae),sV s fd ⟨[v],[]⟩ [("_law_script",v)])/\∀ base:cu,K.In base->base.Ns aW mg->bA l.prog w K mg base CX0 42 fa fd ["_law_script"] (B9 K):=by
 obtain ⟨_,D1⟩:=dfx ["formula","state","now","got"] X G a1;obtain ⟨_,D2⟩:=dfx ["formula","state","now","got"] X G a2;obtain ⟨_,D3⟩:=dfx ["kind","first","second"] X G a3;obtain ⟨_,D4⟩:=dfx ["kind","first","second"] X G a4;obtain ⟨_,D5⟩:=dfx ["model","state","happening"] X G a5;obtain ⟨_,D6⟩:=dfx ["model","state","happening"] X G a6;obtain ⟨_,D7⟩:=dfx ["machine","sign"] X G a7;obtain ⟨_,D8⟩:=dfx ["doing"] X G a8;obtain ⟨_,D9⟩:=dfx ["doing","deeds"] X G a9;obtain ⟨_,D10⟩:=dfx ["doing","deed"] X G a10;obtain ⟨_,D11⟩:=dfx ["doing","name","formula"] X G a11;obtain ⟨_,D12⟩:=dfx ["doing","name","box","otherwise"] X G a12;obtain ⟨_,D13⟩:=dfx ["doing","box","formula"] X G a13;obtain ⟨_,D14⟩:=dfx ["doing","deed"] X G a14;obtain ⟨_,D15⟩:=dfx ["thing"] X G a15;obtain ⟨_,D16⟩:=dfx ["model","at"] X G a16;obtain ⟨_,D17⟩:=dfx ["falling","thing"] X G a17;obtain ⟨_,D18⟩:=dfx ["falling","thing"] X G a18;obtain ⟨_,D19⟩:=dfx ["signs"] X G a19;obtain ⟨_,D20⟩:=dfx ["model","signs"] X G a20;obtain ⟨_,D21⟩:=dfx ["course","most"] X G a21;obtain ⟨_,D22⟩:=dfx ["model","signs","most"] X G a22;obtain ⟨_,D23⟩:=dfx ["_law_cell","_law_k"] X G a23;obtain ⟨_,D24⟩:=dfx ["_law_script"] X G a24;obtain ⟨_,D25⟩:=dfx ["_law_purse_here","_law_out_of"] X G a25;obtain ⟨_,D26⟩:=dfx ["_law_purse_here"] X G a26;obtain ⟨_,D27⟩:=dfx ["_law_purse_here","_law_low","_law_boxes","_law_queues"] X G a27;obtain ⟨_,D28⟩:=dfx ["_law_purse_here","_law_low","_law_left","_law_there","_law_many"] X G a28;obtain ⟨_,D29⟩:=dfx ["_law_purse_here","_law_there","_law_many"] X G a29;obtain ⟨_,D30⟩:=dfx ["_law_purse_here","_law_low","_law_left","_law_there","_law_many"] X G a30;obtain ⟨_,D31⟩:=dfx ["_law_purse_here","_law_long"] X G a31;obtain ⟨_,D32⟩:=dfx ["_law_purse_here","_law_many","_law_first"] X G a32;obtain ⟨_,D33⟩:=dfx ["_law_purse_here"] X G a33;obtain ⟨_,D34⟩:=dfx ["_law_purse_here","_law_many"] X G a34;obtain ⟨_,D35⟩:=dfx ["_law_purse_here","_law_many"] X G a35;obtain ⟨_,D36⟩:=dfx ["_law_keeper","_law_number","_law_most"] X G a36;obtain ⟨_,D37⟩:=dfx ["_law_told"] X G a37;obtain ⟨_,D38⟩:=dfx ["_law_script"] X G a38;obtain ⟨_,FMI,bMI,mMI⟩:=mfx ["self","machines"] a39;have MCM:Mk K CM _:=⟨pCM.m,mMI.at_,mMI.fn,pCM.k⟩;obtain ⟨_,FSI,bSI,mSI⟩:=mfx ["self","boxes","queues","drawn","sent"] a40;obtain ⟨_,FSC,bSC,mSC⟩:=mfx ["self"] a41;have MCS:Mk K CS _:=⟨pCS.m,mSI.at_,mSI.fn,pCS.k⟩;obtain ⟨_,FDI,bDI,mDI⟩:=mfx ["self","machine","state","happening"] a42;obtain ⟨_,FDN,bDN,mDN⟩:=mfx ["self"] a43;obtain ⟨_,FDR,bDR,mDR⟩:=mfx ["self","formula"] a44;obtain ⟨_,FDQ,bDQ,mDQ⟩:=mfx ["self","name"] a45;obtain ⟨_,FDF,bDF,mDF⟩:=mfx ["self","box","worth"] a46;have MCD:Mk K CD _:=⟨pCD.m,mDI.at_,mDI.fn,pCD.k⟩;obtain ⟨_,FBI,bBI,mBI⟩:=mfx ["self","records","ending","states"] a47;have MCB:Mk K CB _:=⟨pCB.m,mBI.at_,mBI.fn,pCB.k⟩;obtain ⟨_,FCI,bCI,mCI⟩:=mfx ["self","model","states","pending"] a48;obtain ⟨_,FCCp,bCCp,mCCp⟩:=mfx ["self"] a49;obtain ⟨_,FCE,bCE,mCE⟩:=mfx ["self","left"] a50;obtain ⟨_,FCO,bCO,mCO⟩:=mfx ["self"] a51;have MCC:Mk K CC _:=⟨pCC.m,mCI.at_,mCI.fn,pCC.k⟩;obtain ⟨_,FKI,bKI,mKI⟩:=mfx ["self","model","signs","every"] a52;obtain ⟨_,FKR,bKR,mKR⟩:=mfx ["self","most"] a53;obtain ⟨_,FKM,bKM,mKM⟩:=mfx ["self"] a54;obtain ⟨_,FKT,bKT,mKT⟩:=mfx ["self","number"] a55;obtain ⟨_,FKG,bKG,mKG⟩:=mfx ["self","number","most"] a56;obtain ⟨_,FKC,bKC,mKC⟩:=mfx ["self","number"] a57;have MCK:Mk K CK _:=⟨pCK.m,mKI.at_,mKI.fn,pCK.k⟩;have e:=hfa.symm.trans D38.m
 cases e;have B:Bl mg:=⟨cG X G zlen,cG X G zabs,cG X G zisinstance,cG X G zlist,cG X G ztuple,cG X G zstr,cG X G zint,cG X G zbool,cG X G zrange,cG X G zmax,cG X G zdict⟩;have TM:MdT K mg CM CS:=⟨pCM.c,pCS.c,nCMmachines,nCSboxes,nCSqueues,nCSdrawn,nCSsent,cJ X G aCM,cJ X G aCS⟩;have TD:DT K mg CD:=⟨pCD.c,nCDmachine,nCDhappening,nCDstate,nCDwritten,nCDoutgoing,nCDends,nCDreckoned,nCDqueued,cJ X G aCD⟩;have T6:FJ K mg (nC CN CG CU CY CP CL):=⟨⟨cJ X G aCN,cJ X G aCG,xCN,xCG,enn,egn,egg⟩,cJ X G aCU,cJ X G aCY,cJ X G aCP,cJ X G aCL,xCU,xCY,xCP,xCL⟩;have MtN:Mt K CD "now" "Doing.now" iV ["self"] _ _:=⟨FDN,bDN,mDN⟩;have MtR:Mt K CD "reckon" "Doing.reckon" eU ["self","formula"] _ _:=⟨FDR,bDR,mDR⟩;have MtQ:Mt K CD "queue_of" "Doing.queue_of" eK ["self","name"] _ _:=⟨FDQ,bDQ,mDQ⟩;have MtF:Mt K CD "fill" "Doing.fill" gy ["self","box","worth"] _ _:=⟨FDF,bDF,mDF⟩;have MtC:Mt K CS "copy" "State.copy" iy ["self"] _ _:=⟨FSC,bSC,mSC⟩;obtain ⟨_,FW100,bW100,mW100⟩:=mfx ["self"] a100;obtain ⟨_,FW101,bW101,mW101⟩:=mfx ["self"] a101;obtain ⟨_,FW102,bW102,mW102⟩:=mfx ["self"] a102;obtain ⟨_,FW103,bW103,mW103⟩:=mfx ["self"] a103;obtain ⟨_,FW104,bW104,mW104⟩:=mfx ["self"] a104;obtain ⟨_,FW105,bW105,mW105⟩:=mfx ["self"] a105;have TK:KeT K mg CK:=⟨pCK.c,nCKmodel,nCKsigns,nCKevery,nCKkept,cJ X G aCK⟩;have NK:NkT K mg CNm CF CMd CRm CTx CTl:=⟨cJ X G aCNm,cJ X G aCF,cJ X G aCMd,cJ X G aCRm,cJ X G aCTx,cJ X G aCTl,cG X G zValueError,XNm,knm,knv,kna⟩;have MtCc:Mt K CC "copy" "Course.copy" gC ["self"] _ _:=⟨FCCp,bCCp,mCCp⟩;have MtKr:Mt K CK "run" "Keeper.run" je ["self","most"] _ _:=⟨FKR,bKR,mKR⟩;have MtKm:Mt K CK "marks" "Keeper.marks" ie ["self"] _ _:=⟨FKM,bKM,mKM⟩;have MtKt:Mt K CK "cut" "Keeper.cut" jf ["self","number"] _ _:=⟨FKT,bKT,mKT⟩;have MtKg:Mt K CK "go_on" "Keeper.go_on" ig ["self","number","most"] _ _:=⟨FKG,bKG,mKG⟩;have MtKc:Mt K CK "course_from" "Keeper.course_from" fh ["self","number"] _ _:=⟨FKC,bKC,mKC⟩;have MMi:mg "min"=none:=cG X G zmin;have TB:BkT K mg CB:=⟨pCB.c,nCBrecords,nCBending,nCBstates,cJ X G aCB⟩;have TC:CoT K mg CC:=⟨pCC.c,nCCmodel,nCCstates,nCCpending,nCCreached,nCCstopped,cJ X G aCC⟩;have MtE:Mt K CC "ending_due" "Course.ending_due" eY ["self","left"] _ _:=⟨FCE,bCE,mCE⟩;have MtO:Mt K CC "do_one" "Course.do_one" gT ["self"] _ _:=⟨FCO,bCO,mCO⟩;have BSo:mg "sorted"=none:=cG X G zsorted;have ME:mg "enumerate"=none:=cG X G zenumerate;have mFa:mg "Fault"=some (.ref CF):=cJ X G aCF;have MW:∀ e,vK K ((nC CN CG CU CY CP CL) e) "word" ((tG f100 f101 f102 f103 f104 f105) e):=fun e=>by cases e <;> assumption
 have XNs:∀ e,mX K ((nC CN CG CU CY CP CL) e):=fun e=>by cases e <;> assumption
 have XFs:∀ e,cN K (.ref ((nC CN CG CU CY CP CL) e)) (.ref CF)=some true:=fun e=>by cases e <;> assumption
 have BW:∀ e,Binds K (tG _ _ _ _ _ _ e) ["self"] []:=uy bW100 bW101 bW102 bW103 bW104 bW105;exact ⟨_,law_b D38.F fun _ _ _ _ _ _ _=>rfl,fun base _ _=>M3 D38 D24 (GV D24 D23 B) D25 D33 (ok_ms D33 D32 (GY D32 D31 D25 B) D28 (fun bs qs=>KD D28 D30 D29 D27 D25 D26 B 4) D25 D26 B) D35 (ok_ss D35 D34 D25 D26 B) MCM (J3 (n:=29) FMI D15 B TM) bMI MCK (ok_ki FKI MCM (J3 (n:=29) FMI D15 B TM) bMI D20 (AX D20 D16 (rZ D16 MCS FSI bSI B TM) D19 (AM D19 ME) MCC bCI (zA FCI TC) TC TM B BSo) TK TM B) bKI MtKr (ok_kr FKR D20 (AX D20 D16 (rZ D16 MCS FSI bSI B TM) D19 (AM D19 ME) MCC bCI (zA FCI TC) TC TM B BSo) MtCc (Hk FCCp MtC (qX FSC MCS FSI bSI B TM) MCC (zA FCI TC) bCI TC TM B) MtE (BL MtE TC) D21 (AW D21 MtE (BL MtE TC) MtO (AV (cf:=(nC CN CG CU CY CP CL)) (fW:=(tG f100 f101 f102 f103 f104 f105)) (fdW:=(tG _ _ _ _ _ _)) MtO D18 (AO D18 D17 B) D5 (fun bq=>(yd (n:=5) D5 D6 MCD bDI (FU FDI MtC (qX FSC MCS FSI bSI B TM) TD TM) D9 (qW D9 D10 MtF MtR (iQ (cf:=(nC CN CG CU CY CP CL)) MtR MtN D1 D3 D4 D2 TD T6 TM B) D12 D11 (x8 D11 MtR (iQ (cf:=(nC CN CG CU CY CP CL)) MtR MtN D1 D3 D4 D2 TD T6 TM B) MtQ TD T6 TM B) D13 (vc D13 MtR (iQ (cf:=(nC CN CG CU CY CP CL)) MtR MtN D1 D3 D4 D2 TD T6 TM B) MtF TD T6 TM B) D14 (ya D14 MtR (iQ (cf:=(nC CN CG CU CY CP CL)) MtR MtN D1 D3 D4 D2 TD T6 TM B) MtN TD T6 TM B) MtQ TD TM 5) D7 D8 TD TM B)) MW BW (uy (qA FW100) (sI FW101) (vw FW102) (yi FW103) (vx FW104) (vy FW105)) XNs mFa XFs TC TM) TC B) MCB bBI (Ks FBI TB) TK TC TB B MMi) MtKt MtKm BSo D36 (ok_ak D36 MtKg (ok_kg FKG MtKc (ok_kc FKC MtCc (Hk FCCp MtC (qX FSC MCS FSI bSI B TM) MCC (zA FCI TC) bCI TC TM B) TK TC NK.mN xCNm) D21 (AW D21 MtE (BL MtE TC) MtO (AV (cf:=(nC CN CG CU CY CP CL)) (fW:=(tG f100 f101 f102 f103 f104 f105)) (fdW:=(tG _ _ _ _ _ _)) MtO D18 (AO D18 D17 B) D5 (fun bq=>(yd (n:=5) D5 D6 MCD bDI (FU FDI MtC (qX FSC MCS FSI bSI B TM) TD TM) D9 (qW D9 D10 MtF MtR (iQ (cf:=(nC CN CG CU CY CP CL)) MtR MtN D1 D3 D4 D2 TD T6 TM B) D12 D11 (x8 D11 MtR (iQ (cf:=(nC CN CG CU CY CP CL)) MtR MtN D1 D3 D4 D2 TD T6 TM B) MtQ TD T6 TM B) D13 (vc D13 MtR (iQ (cf:=(nC CN CG CU CY CP CL)) MtR MtN D1 D3 D4 D2 TD T6 TM B) MtF TD T6 TM B) D14 (ya D14 MtR (iQ (cf:=(nC CN CG CU CY CP CL)) MtR MtN D1 D3 D4 D2 TD T6 TM B) MtN TD T6 TM B) MtQ TD TM 5) D7 D8 TD TM B)) MW BW (uy (qA FW100) (sI FW101) (vw FW102) (yi FW103) (vx FW104) (vy FW105)) XNs mFa XFs TC TM) TC B) TK) TK (cJ X G aCEr) xnm) D37 (ok_nk D37 NK B) D22 (Mx D22 D20 (AX D20 D16 (rZ D16 MCS FSI bSI B TM) D19 (AM D19 ME) MCC bCI (zA FCI TC) TC TM B BSo) D21 (AW D21 MtE (BL MtE TC) MtO (AV (cf:=(nC CN CG CU CY CP CL)) (fW:=(tG f100 f101 f102 f103 f104 f105)) (fdW:=(tG _ _ _ _ _ _)) MtO D18 (AO D18 D17 B) D5 (fun bq=>(yd (n:=5) D5 D6 MCD bDI (FU FDI MtC (qX FSC MCS FSI bSI B TM) TD TM) D9 (qW D9 D10 MtF MtR (iQ (cf:=(nC CN CG CU CY CP CL)) MtR MtN D1 D3 D4 D2 TD T6 TM B) D12 D11 (x8 D11 MtR (iQ (cf:=(nC CN CG CU CY CP CL)) MtR MtN D1 D3 D4 D2 TD T6 TM B) MtQ TD T6 TM B) D13 (vc D13 MtR (iQ (cf:=(nC CN CG CU CY CP CL)) MtR MtN D1 D3 D4 D2 TD T6 TM B) MtF TD T6 TM B) D14 (ya D14 MtR (iQ (cf:=(nC CN CG CU CY CP CL)) MtR MtN D1 D3 D4 D2 TD T6 TM B) MtN TD T6 TM B) MtQ TD TM 5) D7 D8 TD TM B)) MW BW (uy (qA FW100) (sI FW101) (vw FW102) (yi FW103) (vx FW104) (vy FW105)) XNs mFa XFs TC TM) TC B) MCB bBI (Ks FBI TB) TB TC) TM TK TB B⟩
theorem walk {l:tM} {q:aJ} {loose:List Str} {XP:(Str->Option ae)->cu->Prop} {YP:bJ->cu->Prop} {d:DefRec} {K:Params->af} (hn:l.most=some 63) (hdf:d.params.defaults=[])
  (hY:∀ (w:bJ) (h:cu),YP w h->(K w.params).In h)
  (F:∀ (w:bJ) (mg:Str->Option ae) (fa:aa) (h:cu),(K w.params).In h->h.Ns aW mg->mg d.name=some (.ref fa) ->
   ∃ fd:bR,(∀ (s:ak) (u:ae),sV s fd ⟨[u],[]⟩ [("_law_script",u)])/\∀ base:cu,(K w.params).In base->base.Ns aW mg->bA l.prog w (K w.params) mg base CX0 42 fa fd ["_law_script"] (B9 (K w.params))) :
  Hy q loose XP YP l.row.toRowW d [] (fun f vs=>CH f vs):=
 L2.walk_ofB (n:=63) (k:=42) (x:="_law_script") (CX:=fun _=>CX0) (sp:=fun w=>B9 (K w.params)) hn (by decide) hdf ⟨rfl,by decide,by decide⟩ hY F (fun _ _ a ns hl hb hS=>⟨a,ns,rfl,hS,hl,hb,fun _=>rfl⟩) fun _ _ _ _ _ z=>z
end My
namespace PySem.W.Fast
def tw13851531226369744447:=0
def tw9907707453643186166:=0
def tw16025235270009712099:=0
def tw13829947569945801877:=0
def tw8357841406256018589:=0
def tw9679638563388901762:=0
def tw9279874653241321158:=0
def tw13514426906731531407:=0
def tw10874004438339492315:=0
def tw9093845208854701928:=0
def tw9912919248898549634:=0
def tw5516075349192807072:=0
def tw6736414591840314449:=0
def tw16423200882703206378:=0
def tw4339006735962778766:=0
def tw11109093958412495298:=0
def tw11394686960855110724:=0
def tw11773586303250634725:=0
def tw6931810500548782095:=0
def tw12972981951722287297:=0
def tw12288836907724776484:=0
def tw2690554246827766007:=0
def tw2591766387146506289:=0
def tw9475838077602604873:=0
def tw2329207943184350839:=0
def tw12196425092237612765:=0
def tw10243263119764135746:=0
def tw13357694887240566024:=0
def tw2623374119696637870:=0
def tw12227214762096215817:=0
def tw9657051773600021475:=0
def tw7089410763923067972:=0
def tw12191213336873858883:=0
def tw1773271126332842020:=0
def tw16315683263689534610:=0
def tw12174234020802959711:=0
def tw14972200733796738642:=0
def tw15366664740386289779:=0
def tw17595424110010294290:=0
def tw14206108634111711773:=0
def tw8014474340741609884:=0
def tw2740023391015134445:=0
def tw17912887838513092588:=0
def tw17980314834762085505:=0
def tw12602412547297529057:=0
def tw2257972732322639426:=0
def tw5637124738554330388:=0
def tw17639418952947558647:=0
def tw9921448772192114581:=0
def tw5256709363991812707:=0
def tw17107457748692995197:=0
def tw3117896559704492842:=0
def tw13469204257233790857:=0
def tw18144185933950303336:=0
def tw10563783208072928535:=0
def tw4375046256211080027:=0
def tw3245662540990515:=0
def tw3060628909093343268:=0
def tw12389119724179005093:=0
def tw11439460913863366472:=0
def tw10796097218737650146:=0
def tw16764453540391384074:=0
def tw12859631111749385920:=0
def tw13332198737436546280:=0
def tw11652093149496889296:=0
def tw17079327708347125747:=0
def tw17251619220664603805:=0
def tw14021604059830517702:=0
def tw15326883602547040306:=0
def tw76881393949775178:=0
def tw4760581149545589794:=0
def tw17260501782127177666:=0
def tw15958377724468550937:=0
def tw8627080942498625992:=0
def tw3389233041892848267:=0
def tw12674646498873883358:=0
def tw9999583612005390211:=0
def tw2057944874040099484:=0
def tw10740317997016482001:=0
def tw18305161546978226570:=0
def tw9836664023158529813:=0
def tw12316250012899199264:=0
def tw12948604116589524927:=0
def tw9068647621198504031:=0
def tw497742969386635469:=0
def tw16904905363577267867:=0
def tw8706387195307812727:=0
def tw12774856847156835543:=0
def tw9961127281911559159:=0
def tw14639938827639924690:=0
def tw1801233064880624765:=0
def tw13021115334854372525:=0
def tw15255148528341847334:=0
def tw1785621166737412614:=0
def tw12628183066083916564:=0
def tw13533381682522131675:=0
def tw5188243859909874616:=0
def tw5475016139367519305:=0
def tw2098575364974891516:=0
def tw16810427183034801729:=0
def tw5530552440517071057:=0
def tw14184544361702254166:=0
def tw4701657112303600553:=0
def tw7746560770669076348:=0
def tw16474617350032440015:=0
def tw12085061272987662293:=0
def tw16012107460456922780:=0
def tw10369751109225784419:=0
def tw6615130194575682494:=0
def tw18312037317042079443:=0
def tw10028014928518121864:=0
def tw12307810417340339526:=0
def tw5230493971424684502:=0
def tw15060214842574089094:=0
def tw11053972522927810032:=0
def tw11818586215144360320:=0
def tw11043599927362117275:=0
def tw7537093332711766763:=0
def tw13524945118137698043:=0
def tw3587810228200082862:=0
def tw17404776739376249056:=0
def tw4113354320211275418:=0
def tw4550123492211250683:=0
def tw16147565759718232437:=0
def tw2510277098765632774:=0
def tw17820764953047135135:=0
def tw4075969821766739883:=0
def tw14613403156811152758:=0
def tw12643078363268201424:=0
def tw7713197225774038183:=0
def tw13190028885003580576:=0
def tw11637912693691955029:=0
def tw12178300877397193107:=0
def tw14034960578151476834:=0
def tw3325585946831767298:=0
def tw15995329436037572211:=0
def tw16643081726673991877:=0
def tw1410846746721178983:=0
def tw7416484336015393039:=0
def tw10100866831815609068:=0
def tw702818983788501051:=0
def tw5505232568655417778:=0
def tw7186709381404831357:=0
def tw3526214723185145192:=0
def tw14796422213078754463:=0
def tw3491895637085824719:=0
def tw18177879687921252527:=0
def tw16982429796082683876:=0
def tw8392228115124684498:=0
def tw13171240373658159940:=0
def tw6654517034303051119:=0
def tw11034407132054145202:=0
def tw2711791163044240175:=0
def tw2186534591946072086:=0
def tw17226459932227580786:=0
def tw8345091339913666963:=0
def tw11073807854787544021:=0
def tw17396899283907186151:=0
def tw12877448991269202469:=0
def tw2627944994189073738:=0
def tw2113875141230428350:=0
def tw2635297754123836338:=0
def tw7222404056866294667:=0
def tw11289640344163184244:=0
def tw7173145899431342248:=0
def tw12615945177109295127:=0
def tw11370434033826584841:=0
def tw768998174921341850:=0
def tw13554586956039838969:=0
def tw2936479924313771809:=0
def tw2260008969619248271:=0
def tw14481897002788434416:=0
def tw4290133455394859964:=0
def tw3909222876545148411:=0
def tw26179125126822268:=0
def tw8237665282023839938:=0
def tw7173396408944493825:=0
def tw17323768126947053857:=0
def tw8255744415621008899:=0
def tw228871224402024957:=0
def tw3209349340643022521:=0
def tw6212736245849807013:=0
def tw8184365382694604863:=0
def tw7298868511383282292:=0
def tw2643770677824477167:=0
def tw17735865623365167984:=0
def tw8881032966839472952:=0
def tw5612625763297375674:=0
def tw16193719427391097875:=0
def tw783926375450868412:=0
def tw5264081800997758703:=0
def tw11293346431456133619:=0
def tw8639243348288831191:=0
def tw5128024093338866594:=0
def tw8832430025572873920:=0
def tw13130371214015214479:=0
def tw8802814213056862099:=0
def tw13834283891261759046:=0
def tw16750878466355011723:=0
def tw16324005432487597080:=0
def tw15725926662600812299:=0
def tw17660823631042966741:=0
def tw13760049755864540835:=0
def tw15418363628357021218:=0
def tw14365259056363210108:=0
def tw16220121737640972285:=0
def tw15961499987947514896:=0
def tw13125170899710200632:=0
def tw16785388604810402285:=0
def tw5238914344549602059:=0
def tw6890202701966628269:=0
def tw6569756612985652296:=0
def tw11459890884049219700:=0
def tw5570008872704660340:=0
def tw1936921871233475429:=0
def tw7912673474581992462:=0
def tw3238202484730464682:=0
def tw13026882453763585562:=0
def tw8508091154589914394:=0
def tw2375477877214465306:=0
def tw3782369228191609530:=0
def tw15995132881912962657:=0
def tw4495309772549554835:=0
def tw10767819738772502207:=0
def tw10921141464973044206:=0
def tw18360268542440788287:=0
def tw6453177285199973638:=0
def tw9468074841564160416:=0
def tw14732115821207386802:=0
def tw7648787827608397420:=0
def tw5542258215437193467:=0
def tw13117087585133608686:=0
def tw9495758198845134902:=0
def tw2919778558282756707:=0
def tw8409597098007403894:=0
def tw8290156865706888181:=0
def tw319195594207992258:=0
def tw14677831671558301158:=0
def tw14630661140740409141:=0
def tw13785082230613723174:=0
def tw17052407280144299496:=0
def tw9259088845869958199:=0
def tw14211053454851387148:=0
def tw14294844662600220181:=0
def tw4550411587182444576:=0
def tw12334814372331852327:=0
def tw17361140650537940337:=0
def tw3725066024953476960:=0
def tw8413268094107077732:=0
def tw12834677404632069801:=0
def tw6131963364266593085:=0
def tw3162092566558161318:=0
def tw1361350310582476859:=0
def tw6923584960588729123:=0
def tw14170692873950552042:=0
def tw14565869055247764557:=0
def tw4776126425911582548:=0
def tw9512136968089864869:=0
def tw3974628067146427370:=0
def tw9518303590446596660:=0
def tw8106092587565025739:=0
def tw3393655563943118921:=0
def tw16818502626247546566:=0
def tw2972780572736919998:=0
def tw5389337888529697165:=0
def tw5541726169833762294:=0
def tw3664437309792482696:=0
def tw15819691603381447927:=0
def tw10167637449700108398:=0
def tw9133392389485551470:=0
def tw15627770527785744279:=0
def tw5972336520838978422:=0
def tw12280766185620412915:=0
def tw14354907012117649818:=0
def tw7595994006296197315:=0
def tw12541141607018530377:=0
def tw2951159017906316699:=0
def tw4581046923521586908:=0
def tw14311268306015962668:=0
def tw7267436614092554265:=0
def tw5204041264486304230:=0
def tw15011554616394651058:=0
def tw3217938834479316228:=0
def tw4445939860966151784:=0
def tw17962125737730351236:=0
def tw12906733189041728290:=0
def tw3430450012753361975:=0
def tw4209068063322853494:=0
def tw16507146717419934009:=0
def tw5718930251938495292:=0
def tw17443678686775850167:=0
def tw14942331118549787116:=0
def tw4687647278329921910:=0
def tw9001296639592599494:=0
def tw13626482031031461714:=0
def tw8181409665440291460:=0
def tw5456158733515481987:=0
def tw195715905162284874:=0
def tw17840845702710019344:=0
def tw67086167586189965:=0
def tw5312885944615534755:=0
def tw2534852172213728587:=0
def tw1264370642723550089:=0
def tw5937506452054342161:=0
def tw6201544775209073041:=0
def tw3209242383695906541:=0
def tw5098520048922517193:=0
def tw3522094709207452717:=0
def tw16787407264585461398:=0
def tw11754644866929396221:=0
def tw10443260726056429899:=0
def tw12465351709009210054:=0
def tw14949013849652373504:=0
def tw8566694486311277477:=0
def tw12378688961979988455:=0
def tw9269219121639793820:=0
def tw14877089007213602612:=0
def tw6830277831718822674:=0
def tw16589888059726334172:=0
def tw7696701676017252986:=0
def tw11918409979766080329:=0
def tw10303342228120500937:=0
def tw9919907432812378501:=0
def tw8812776882993876522:=0
def tw16004179016371499847:=0
def tw7192247711391445771:=0
def tw17286567152456842459:=0
def tw8231111835149866649:=0
def tw13833998790550467496:=0
def tw12279640865424743426:=0
def tw14759676192123616821:=0
def tw16786101610275593918:=0
def tw18073862403579996070:=0
def tw15626798621022720341:=0
def tw3651310535723371148:=0
def tw13699255108144546049:=0
def tw7044425230676729112:=0
def tw10371896083433555085:=0
def tw16834847761051763754:=0
def tw361089746508861573:=0
def tw888553564010085707:=0
def tw1637245887945123398:=0
def tw4737277704648167553:=0
def tw9925720794248774569:=0
def tw2731070950521695919:=0
def tw6400259658207246103:=0
def tw8961525506763321450:=0
def tw6819754639329398065:=0
def tw1150853011096429666:=0
def tw12614034075451378637:=0
def tw13407288322126074164:=0
def tw6867010383787370242:=0
def tw12277526137091264244:=0
def tw3560070171828604378:=0
def tw371157834184971374:=0
def tw2656943538123201847:=0
def tw4778056265637554578:=0
def tw4344847419171781574:=0
def tw3279767958980376057:=0
def tw2391734986906439309:=0
def tw14145764300995922052:=0
def tw14580221103220208509:=0
def tw7830245075767659524:=0
def tw14241914071651891337:=0
def tw11020976618857015415:=0
def tw13198620916063647370:=0
def tw9976085528594336985:=0
def tw7103274415734078601:=0
def tw18194392751410533391:=0
def tw8306361631401862906:=0
def tw12292430319760367133:=0
def tw12520016606504626177:=0
def tw302796040280741751:=0
def tw1033468243313800138:=0
def tw7267377554240359267:=0
def tw1558018251453397572:=0
def tw4173352955384583509:=0
def tw313260022200733662:=0
def tw17477944779137368897:=0
def tw17777773579491798217:=0
def tw14606931175695463277:=0
def tw12381209821429247351:=0
def tw12924257043257675284:=0
def tw1220333074709516729:=0
def tw6134156858208373017:=0
def tw18204706540618490356:=0
def tw4701175485721734510:=0
def tw2132722571944391425:=0
def tw5843938349755218441:=0
def tw11008045405291124850:=0
def tw2421108646908211078:=0
def tw12868269205497634602:=0
def tw12678282924757908785:=0
def tw9026765767415774088:=0
def tw6122343253767252931:=0
def tw11082212742410262488:=0
def tw9633995976664600676:=0
def tw14592653731598389006:=0
def tw5413022273636425085:=0
def tw17966545519548636004:=0
def tw14200137361248803843:=0
def tw12616236804381701931:=0
def tw3539985408221836890:=0
def tw15844045891398971361:=0
def tw14008595590125353278:=0
def tw9522046454708439217:=0
def tw7747024884601097297:=0
def tw1274820504009548886:=0
def tw912234434664571453:=0
def tw12856437829290152140:=0
def tw16869581309116430183:=0
def tw9855418113577412034:=0
def tw8765645107890922169:=0
def tw9243929780929254469:=0
def tw13418596187010556942:=0
def tw9517795794782202150:=0
def tw3855190149690791842:=0
def tw3857255549730587411:=0
def tw5334302028412341700:=0
def tw15556990131192908497:=0
def tw14508794776971591069:=0
def tw14863764298389419655:=0
def tw2462623761124653931:=0
def tw1788691318024898345:=0
def tw17812739079824451261:=0
def tw8413707394179011632:=0
def tw10492189617307797075:=0
def tw7784139668306478367:=0
def tw17551757376124023396:=0
def tw7335711220790908932:=0
def tw17264915184696452440:=0
def tw4923627755708186810:=0
def tw10486942835867227913:=0
def tw13115510884571025623:=0
def tw1421060695648913891:=0
def tw10197068168912284960:=0
def tw8184316769745005953:=0
def tw1476401441300387239:=0
def tw10706115528920935350:=0
def tw5065379515599399982:=0
def tw12799101667395007989:=0
def tw17753555539862498709:=0
def tw17175541903810295065:=0
def tw10137382428344568139:=0
def tw12992033536852423096:=0
def tw13615641317900328684:=0
end PySem.W.Fast
open PySem PySem.W PyProof.Rows
set_option maxRecDepth 100000 in
set_option maxHeartbeats 0 in
theorem PySem.Challenge.cw_momentloom_k41_go_on_holds : PySem.Challenge.rw_momentloom_k41_go_on.Holds := by
 w_on; o_law; k_head; (case hw=>w_witness2)
 k_fill
 refine My.walk (l:=M4) rfl rfl (fun w h Y=>PySem.W.kIn_of Y) ?F
 case F =>
  intro w mg fa h KX G hmg;refine' My.all_mk KX G hmg ?a1 ?a2 ?a3 ?a4 ?a5 ?a6 ?a7 ?a8 ?a9 ?a10 ?a11 ?a12 ?a13 ?a14 ?a15 ?a16 ?a17 ?a18 ?a19 ?a20 ?a21 ?a22 ?a23 ?a24 ?a25 ?a26 ?a27 ?a28 ?a29 ?a30 ?a31 ?a32 ?a33 ?a34 ?a35 ?a36 ?a37 ?a38 ?aCM ?a39 ?pCM ?nCMmachines ?aCS ?a40 ?a41 ?pCS ?nCSboxes ?nCSqueues ?nCSdrawn ?nCSsent ?aCD ?a42 ?a43 ?a44 ?a45 ?a46 ?pCD ?nCDmachine ?nCDhappening ?nCDstate ?nCDwritten ?nCDoutgoing ?nCDends ?nCDreckoned ?nCDqueued ?aCB ?a47 ?pCB ?nCBrecords ?nCBending ?nCBstates ?aCC ?a48 ?a49 ?a50 ?a51 ?pCC ?nCCmodel ?nCCstates ?nCCpending ?nCCreached ?nCCstopped ?aCK ?a52 ?a53 ?a54 ?a55 ?a56 ?a57 ?pCK ?nCKmodel ?nCKsigns ?nCKevery ?nCKkept ?aCN ?xCN ?aCG ?xCG ?aCU ?xCU ?aCY ?xCY ?aCP ?xCP ?aCL ?xCL ?aCF ?xCF ?aCNm ?xCNm ?enn ?egn ?egg ?aCEr ?aCTl ?aCTx ?aCRm ?aCMd ?knm ?knv ?kna ?xnm ?XNm ?xfCN ?XN100 ?a100 ?xfCG ?XN101 ?a101 ?xfCU ?XN102 ?a102 ?xfCY ?XN103 ?a103 ?xfCP ?XN104 ?a104 ?xfCL ?XN105 ?a105 ?zlen ?zabs ?zisinstance ?zlist ?ztuple ?zstr ?zint ?zbool ?zrange ?zmax ?zdict ?zsorted ?zenumerate ?zmin ?zValueError
  case a1 | a2 | a3 | a4 | a5 | a6 | a7 | a8 | a9 | a10 | a11 | a12 | a13 | a14 | a15 | a16 | a17 | a18 | a19 | a20 | a21 | a22 | a23 | a24 | a25 | a26 | a27 | a28 | a29 | a30 | a31 | a32 | a33 | a34 | a35 | a36 | a37 | a38=>
   refine' My.dn_i ?a ?l ?c ?k
   case a=>k_is
   case l=>k_is
   case c=>k_is
   case k=>k_is
  case aCM | aCS | aCD | aCB | aCC | aCK | aCN | aCG | aCU | aCY | aCP | aCL | aCF | aCNm=>k_is
  case a39 | a40 | a41 | a42 | a43 | a44 | a45 | a46 | a47 | a48 | a49 | a50 | a51 | a52 | a53 | a54 | a55 | a56 | a57=>
   refine' My.mn_i ?a ?i ?l ?c ?k
   case a=>k_is
   case i=>k_is
   case l=>k_is
   case c=>k_is
   case k=>k_is
  case pCM | pCS | pCD | pCB | pCC | pCK=>exact ⟨⟨by k_is,by k_is,by k_is,by k_is⟩,by k_is,by k_is⟩
  case nCMmachines | nCSboxes | nCSqueues | nCSdrawn | nCSsent | nCDmachine | nCDhappening | nCDstate | nCDwritten | nCDoutgoing | nCDends | nCDreckoned | nCDqueued | nCBrecords | nCBending | nCBstates | nCCmodel | nCCstates | nCCpending | nCCreached | nCCstopped | nCKmodel | nCKsigns | nCKevery | nCKkept | zlen | zabs | zisinstance | zlist | ztuple | zstr | zint | zbool | zrange | zmax | zdict | zsorted | zenumerate | zmin | zValueError=>k_is
  case xCN | xCG | xCU | xCY | xCP | xCL | xCF | xCNm=>k_exc
  case enn | egn | egg=>kts_exm
  case aCEr | aCTl | aCTx | aCRm | aCMd=>k_is
  case knm | knv | kna=>kit_is
  case xnm | xfCN | xfCG | xfCU | xfCY | xfCP | xfCL=>kts_exm
  case XNm | XN100 | XN101 | XN102 | XN103 | XN104 | XN105=>exact ⟨by k_is,by k_is,by k_is,by k_is,by k_is,by k_is,by k_is⟩
  case a100 | a101 | a102 | a103 | a104 | a105=>
   refine' My.mn_i ?a ?i ?l ?c ?k
   case a=>k_is
   case i=>k_is
   case l=>k_is
   case c=>k_is
   case k=>k_is

